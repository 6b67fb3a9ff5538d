import Derived.Test.YtnhfdcfnojnofaaGreatDoorAds1Z2
open Option renaming none->O,some->E
open Go.Value renaming slice->V,bool->G,tuple->tp,int->it,agg->ag
open Go.Obj renaming cells->cl
open Go renaming World->H
open Go.Proofs.Tryz renaming prog->pg
open Go.Proofs.Tryz
set_option linter.unusedSimpArgs false
set_option linter.unusedVariables false
set_option maxHeartbeats 1000000
set_option maxRecDepth 100000
namespace Go.Proofs.YtnhfdcfnojnofaaGreatDoor
open Go.RowKit
def zca (K:Nat):Prop:=∀(w:H) (u v:Value) (m n:Nat),NatV w u m->NatV w v n->m<4294967296^K->n<4294967296^K->
 Calls pg 138 #[u,v] w fun e w'=>∃x y,e= .returned (tp #[x,y])/\NatV w' x (m/n)/\NatV w' y (m%n)/\Below w.heap.size w w'
def LongOK (K:Nat):Prop:=∀(w:H) (u v:Value) (m n:Nat),NatV w u m->NatV w v n->m<4294967296^K->n<=m->4294967296^2<=m->4294967296<=n->
 Calls pg 226 #[u,v] w fun e w'=>∃x y,e= .returned (tp #[x,y])/\NatV w' x (m/n)/\NatV w' y (m%n)/\Below w.heap.size w w'
theorem Top.ge {ds:List Nat}(a:Dig ds){k:Nat}(b:4294967296^k<=val ds):k<ds.length:=by
 rcases Z8 k ds.length with h|h
 ·exact h
 ·have b:=val_lt a;have a:=pow_mono h;omega
theorem zeM (w:H)(x:Int)(n:Nat)(b:x=(n:Int))(a:n<18446744073709551616):
 Calls pg 218 #[it .u64 x] w fun e w'=>∃v,e= .returned v/\NatV w' v n/\Below w.heap.size w w':=by
 subst b;exact zlL w n a
theorem zm7 (K:Nat)(hK:K<=1073741823)(hL:LongOK K):zca K:=by
 intro ar aq a1 m n b a i l;by_cases j:n=0
 ·subst j;go_enter func138,ntmps138
  go_wp2_with fail
  refine(zaF _ _ a).mono ?_;rintro e c ⟨rfl,rfl⟩;go_wp2;go_ret2;exact⟨_,_,rfl,by rw[Nat.div_zero];exact NatV.zero _ _ _,by rw[Nat.mod_zero];exact b,zR _ _⟩
 ·by_cases y:m<n
  ·go_enter func138,ntmps138
   go_wp2_with fail
   refine(Jq _ _ _ a j).mono ?_;rintro e c ⟨rfl,rfl⟩;go_wp2_with fail
   refine(compare_any c aq a1 m n K b a i l om).mono ?_;rintro e f ⟨rfl,q,rfl⟩;rw[zaA y];go_wp2;go_ret2;exact⟨_,_,rfl,by rw[zal y];exact NatV.zero _ _ _,by rw[zam y];exact b.drewN q,zdD (zR _ _)⟩
  ·have av:0<=QL m n:=by
    rcases Z8 n m with N|N
    ·rw[zaB N];omega
    ·rw[zcw om];omega
   by_cases P:m<4294967296^2
   ·obtain⟨h,t,x,ht,B,hl⟩:=zaj b P;obtain⟨ao,a4,rfl,hc,s⟩:=t;have z:m<18446744073709551616:=P;have ah:n<18446744073709551616:=om;clear s;go_enter func138,ntmps138
    go_wp2_with fail
    refine(Jq _ _ _ a j).mono ?_;rintro e c ⟨rfl,rfl⟩;go_wp2_with fail
    refine(compare_any c _ a1 m n K b a i l om).mono ?_;rintro e f ⟨rfl,q,rfl⟩;generalize QL m n=J at *;go_wp2_with fail
    refine(zdu _ _ m (b.drewN q) z).mono ?_;rintro e f ⟨rfl,rfl⟩;go_wp2_with fail
    refine(zdu _ _ n (a.drewN q) ah).mono ?_;rintro e f ⟨rfl,rfl⟩;go_wp2;have S:m/n<18446744073709551616:=zr (Qh _ _) z;have aj:m%n<18446744073709551616:=zr (Nat.mod_le _ _) z;have W1:Hid (IntKind.u64.wrap ((m:Int)/(n:Int))=((m/n:Nat):Int)):=by
     have e:∀n:Int,IntKind.u64.wrap n=n%18446744073709551616:=fun n=>by simp[IntKind.wrap,IntKind.signed,IntKind.bits]
     rw[Hid,e,<-Int.natCast_ediv];generalize m/n=q0 at S;omega
    have W2:Hid ((m:Int).tmod (n:Int)=((m%n:Nat):Int)):=by
     rw[Hid,Int.tmod_eq_emod_of_nonneg om];simp
    go_region_with (first|(go_at_call_of 218 (IntKind.u64.wrap ((m:Int)/(n:Int)));refine(zeM _ _ (m/n) W1.out S).mono ?_;rintro e wA ⟨a2,rfl,D,R⟩)|(go_at_call_of 218 ((m:Int).tmod (n:Int));refine(zeM _ _ (m%n) W2.out aj).mono ?_;rintro e wB ⟨a3,rfl,o,k⟩))
    go_wp2;go_ret2;exact⟨_,_,rfl,D.below k,o,Qt (R.trans (k.mono R.size))⟩
   ·obtain⟨h,t,x,ht,B,hl⟩:=zaj b i;obtain⟨g,Y,a5,an,C,_⟩:=zaj a l;have ae:2<h.length:=Top.ge x om;have ap:=t;obtain⟨ao,a4,rfl,hc,s⟩:=t;have ay:=Y;obtain⟨_,_,rfl,_,A⟩:=Y;by_cases h1:g.length=1
    ·match g,h1 with
     |[d],_=>
      simp only[val,Z7,qy]at C;subst C;obtain⟨v,F,rfl,hb,U⟩:=A sp;have a6:ar.cell? ⟨v,F,O⟩=E (it .u32 (d:Nat)):=by have:=U 0 sp;simpa using this
      have a8:=a5 d sp;clear s A U;go_enter func138,ntmps138
      go_wp2_with fail
      refine(Jq _ _ _ a j).mono ?_;rintro e c ⟨rfl,rfl⟩;go_wp2_with fail
      refine(compare_any c _ _ m d K b a i l om).mono ?_;rintro e f ⟨rfl,q,rfl⟩;generalize QL m d=J at *;go_wp2_with fail
      refine(zfA _ _ h (ap.drewN q) om).mono ?_;rintro e f ⟨a2,rfl,⟨_,I,rfl,w,ak⟩,r⟩;obtain⟨M,rfl,hg,ab,al,aa⟩:=ak (by intro e;simp[e]at ae);have aw:=(r.cell (p:=⟨v,F,O⟩) (by exact hb)).trans a6;go_wp2_with fail
      refine(zgU f M 0 I d h w om om a8 al aa x).mono ?_;rintro e w2 ⟨L,a0,rfl,T,ad,a7,W,X,Z⟩;go_wp2_with fail
      refine(trim_any w2 M 0 I h.length L w om om W).mono ?_;rintro e w3 ⟨rfl,rfl⟩;go_wp2_with fail
      refine(zeM _ _ a0 sp om).mono ?_;rintro e w4 ⟨a3,rfl,o,k⟩;go_wp2;go_ret2;have hq:=natV_trim (n:=h.length) W a7 (by rw[X.size];exact ab) ad w;have a9:m/d=val L:=by rw[<-B,Z];rw[Nat.mul_add_div om,zal T,qy]
      have af:m%d=a0:=by rw[<-B,Z];rw[Nat.mul_add_mod,zam T]
      have Q:Below c.heap.size c w3:=Qt (r.trans (X.below hg));exact⟨_,_,rfl,by rw[a9];exact hq.below k,by rw[af];exact o,Q.trans (k.mono Q.size)⟩
    ·have au:((g.length:Int) == 1)=false:=qO.2 om;have ai:4294967296<=n:=by
      have ax:1<g.length:=by
       have:g.length≠0:=fun e=>j (by rw[<-C,QM.1 e];rfl)
       omega
      obtain⟨u,hj⟩:∃u,g.length=u+1:=⟨g.length-1,om⟩;have h3:=an.le u hj;have h4:=pow_mono (show 1<=u by omega);omega
     clear s A;go_enter func138,ntmps138
     go_wp2_with fail
     refine(Jq _ _ _ a j).mono ?_;rintro e c ⟨rfl,rfl⟩;go_wp2_with fail
     refine(compare_any c _ _ m n K b a i l om).mono ?_;rintro e f ⟨rfl,q,rfl⟩;generalize QL m n=J at *;go_wp2_with fail
     refine(hL _ _ _ m n (b.drewN q) (a.drewN q) i om om ai).mono ?_;rintro e w2 ⟨a2,a3,rfl,D,o,r⟩;go_wp2;go_ret2;exact⟨_,_,rfl,D,o,Qt r⟩
theorem zkk (K:Nat)(hK:K<=1073741823)(C:zca K)(w:H)(u v:Value)(m n:Nat)(Z:NatV w u m)(hv:NatV w v n)(Q:m<4294967296^K)(R:n<4294967296^K):
 Calls pg 136 #[u,v] w fun e w'=>∃x,e= .returned x/\NatV w' x (Nat.gcd m n)/\Below w.heap.size w w':=by
 go_enter func136,ntmps136
 go_wp2;go_loopg [0,1] n (fun z a0 a1 wr=>∃a,NatV wr a0 a/\NatV wr a1 z/\a<4294967296^K/\z<4294967296^K/\Hid (Nat.gcd a z=Nat.gcd m n)/\Below w.heap.size w wr)
 case atStart=>exact⟨m,Z,hv,Q,R,rfl,zR _ _⟩
 case round=>
  obtain⟨a,g,h,r,d,k,b⟩:=hrel;obtain⟨o,W,L,_,l,_⟩:=zaj g r;obtain⟨j,X,M,Y,i,_⟩:=zaj h d;have U:=g;have I:=h;obtain⟨_,_,rfl,_,S⟩:=W;obtain⟨_,_,rfl,_,T⟩:=X;clear S T;by_cases F:gk=0
  ·have N:=Y.zero.1 om;subst N;subst F;clear l i;go_wp2;go_ret;refine⟨_,rfl,?_,b⟩;rw[<-k.out,zdt];exact U
  ·have a3:0<j.length:=Zq.2 (fun e=>F (by rw[<-i,e];rfl));by_cases J:o.length<=2/\j.length<=2
   ·obtain⟨B,p⟩:=J;have D:a<18446744073709551616:=by
     have f:=val_lt L;have q:=pow_mono B;rw[l]at f;exact zv f q
    have s:gk<18446744073709551616:=by
     have f:=val_lt M;have q:=pow_mono p;rw[i]at f;exact zv f q
    have P:Nat.gcd a gk<18446744073709551616:=zr (Nat.gcd_le_right _ om) s;clear l i;go_wp2_with fail
    refine(zdu _ _ a g D).mono ?_;rintro e w1 ⟨rfl,rfl⟩;go_wp2_with fail
    refine(zdu _ _ gk h s).mono ?_;rintro e w1 ⟨rfl,rfl⟩;go_wp2_with fail
    refine(zfv _ a gk D s).mono ?_;rintro e A ⟨rfl,_,rfl⟩;go_wp2_with fail
    refine(zlL _ _ P).mono ?_;rintro e A ⟨x,rfl,t,c⟩;go_wp2;go_ret;refine⟨_,rfl,?_,b.trans ((Qt c).mono b.size)⟩;rw[<-k.out];exact t
   ·clear l i;by_cases B:o.length<=2
    ·have p:(2:Int)<j.length:=om;go_wp2_with fail
     refine(C _ _ _ a gk g h r d).mono ?_;rintro e A ⟨x,a2,rfl,t,y,c⟩;go_wp2;go_roundg (a%gk)
     case measure=>exact Qx _ om
     case rel=>exact⟨gk,I.below c,y,d,Qm (Qx _ om) d,by rw[Hid,<-k.out,JM gk,<-Nat.gcd_rec,JM],b.trans (c.mono b.size)⟩
    ·have p:(2:Int)<o.length:=om;go_wp2_with fail
     refine(C _ _ _ a gk g h r d).mono ?_;rintro e A ⟨x,a2,rfl,t,y,c⟩;go_wp2;go_roundg (a%gk)
     case measure=>exact Qx _ om
     case rel=>exact⟨gk,I.below c,y,d,Qm (Qx _ om) d,by rw[Hid,<-k.out,JM gk,<-Nat.gcd_rec,JM],b.trans (c.mono b.size)⟩
theorem NatV.slice {w:H}{v:Value}{n:Nat}(h:NatV w v n):∃a l cap,v=V a l cap:=by
 obtain⟨_,⟨a,cap,b,_⟩,_⟩:=h;exact⟨a,_,cap,b⟩
theorem NatV.setCell {w:H}{v:Value}{n:Nat}(h:NatV w v n){a:Addr}{y:Value}(l:w.cell? a=E y)(g:∀k,y≠it .u32 k)(x:Value):NatV (w.setCell a x) v n:=by
 obtain⟨d,⟨b,c,j,f,i⟩,e⟩:=h;refine⟨d,⟨b,c,j,f,fun f=>?_⟩,e⟩;obtain⟨b,j,d,e,c⟩:=i f;refine⟨b,j,d,by simpa using e,fun i b=>?_⟩;rw[zp _ _ _ _ (by
  intro d;have:=c i b;rw[<-d,l,z7]at this;exact g _ this)]
 exact c i b
def zY (w:H)(x:Value)(z:Int):Prop:=∃b v,x=ag #[G b,v]/\NatV w v z.natAbs/\Hid (b=decide (z<0))
theorem zY.below {w w':H}{x:Value}{z:Int}(h:zY w x z)(e:Below w.heap.size w w'):zY w' x z:=by
 obtain⟨b,v,a,c,d⟩:=h;exact⟨b,v,a,c.below e,d⟩
def sg (b:Bool)(n:Nat):Int:=if b then -(n:Int)else n
theorem zbn (b:Bool)(n:Nat):(sg b n).natAbs=n:=by cases b<;>simp[sg]
theorem sg_neg (b:Bool)(n:Nat):decide (sg b n<0)=(b && !(n == 0)):=by
 cases b;·simp[sg]
 ·by_cases h:n=0
  ·subst h;simp[sg]
  ·have a:=Zm h;have c:=qO.2 h;simp[sg,a,c]
theorem zfF {w:H}{b c:Bool}{v:Value}{n:Nat}(h:NatV w v n)(a:c=(b && !(n == 0))):zY w (ag #[G c,v]) (sg b n):=
 ⟨c,v,rfl,by rw[zbn];exact h,by rw[Hid,sg_neg];exact a⟩
theorem Qv {w:H}{g:Nat}{e b:Bool}{a:Option Addr}{d c:Nat}{v:Value}{z:Int}(i:NatV w v z.natAbs)(h:Hid (b=decide (z<0)))(f:w.cell? ⟨g,0,O⟩=E (G e))(h1:w.cell? ⟨g,1,O⟩=E (V a d c)):
 zY ((w.setCell ⟨g,0,O⟩ (G b)).setCell ⟨g,1,O⟩ v) (ag #[G b,v]) z:=by
 refine⟨b,v,rfl,?_,h⟩;refine(i.setCell f sp _).setCell (y:=V a d c) ?_ sp _;rw[zp _ _ _ _ sp];exact h1
theorem zY.setCell {w:H}{x:Value}{z:Int}(h:zY w x z){a:Addr}{y:Value}(g:w.cell? a=E y)(f:∀k,y≠it .u32 k)(u:Value):zY (w.setCell a u) x z:=by
 obtain⟨b,v,c,d,e⟩:=h;exact⟨b,v,c,d.setCell g f u,e⟩
theorem zY.drewN {w:H}{x:Value}{z:Int}(h:zY w x z)(q:Nat):zY (w.drewN q) x z:=h
theorem zY.alloc {w:H}{x:Value}{z:Int}(h:zY w x z)(o:Obj):zY (w.alloc o) x z:=h.below ((zR _ _).alloc (zh _) o)
theorem zY.parts {w:H}{x:Value}{z:Int}(h:zY w x z):∃b a l cap,x=ag #[G b,V a l cap]/\NatV w (V a l cap) z.natAbs/\Hid (b=decide (z<0)):=by
 obtain⟨b,_,d,c,e⟩:=h;obtain⟨a,l,cap,rfl⟩:=c.slice;exact⟨b,a,l,cap,d,c,e⟩
theorem jw (w:H)(b:Bool)(v:Value)(n:Nat)(h:NatV w v n):
 Calls pg 129 #[G b,v] w fun e w'=>∃x,e= .returned x/\zY w' x (sg b n)/\Below w.heap.size w w':=by
 obtain⟨a,l,c,rfl⟩:=h.slice;cases b with
 |false=>
  go_enter func129,ntmps129
  go_wp2;exact zH (v:=ag #[G false,V a l c]) (by simp[results,results129,go_sem]) rfl ⟨_,rfl,zfF (h.alloc _) rfl,(zR _ _).alloc (zh _) _⟩
 |true=>
  by_cases d:n=0
  ·subst d;go_enter func129,ntmps129
   go_wp2_with fail
   refine(zaF _ _ (h.alloc _)).mono ?_;rintro e w' ⟨rfl,rfl⟩;go_wp2;exact zH (v:=ag #[G false,V a l c]) (by simp[results,results129,go_sem]) rfl ⟨_,rfl,zfF (h.alloc _) rfl,(zR _ _).alloc (zh _) _⟩
  ·go_enter func129,ntmps129
   go_wp2_with fail
   refine(Jq _ _ n (h.alloc _) d).mono ?_;rintro e w' ⟨rfl,rfl⟩;go_wp2;exact zH (v:=ag #[G true,V a l c]) (by simp[results,results129,go_sem]) rfl ⟨_,rfl,zfF (h.alloc _) (by simp[d]),(zR _ _).alloc (zh _) _⟩
theorem zdE (w:H)(v:Value)(n:Nat)(h:NatV w v n):
 Calls pg 206 #[v] w fun e w'=>∃x,e= .returned x/\zY w' x (n:Int)/\Below w.heap.size w w':=by
 go_enter func206,ntmps206
 go_wp2_with fail
 refine(jw _ _ _ n (h.alloc _)).mono ?_;rintro e w' ⟨x,rfl,b,a⟩;have c:=b;rw[show sg false n=(n:Int)from rfl]at b;obtain⟨i,g,m,j,rfl,l,k⟩:=b.parts;obtain⟨b,c⟩:=bcell a;have d:=a.size;have d:w'.cell? ⟨w.heap.size,0,O⟩=E (G false):=by rw[b _ _ sp];simp
 have f:w'.cell? ⟨w.heap.size,1,O⟩=E (V O 0 0):=by rw[b _ _ sp];simp
 have o:w'.frozen? ⟨w.heap.size,0,O⟩=false:=by rw[c _ _ sp];simp
 have o:w'.frozen? ⟨w.heap.size,1,O⟩=false:=by rw[c _ _ sp];simp
 clear b c;go_wp2;exact zH (v:=ag #[G i,V g m j]) (by simp[results,results206,go_sem,d,f]) rfl ⟨_,rfl,Qv l k d f,
  ((((zR _ _).alloc (zh _) _).trans (a.mono sp)).setCell (zh _) _).setCell (zh _) _⟩
theorem zfG {z:Int}{b:Bool}(h:Hid (b=decide (z<0))):z=sg b z.natAbs:=by
 have a:=h.out;subst a;by_cases a:z<0
 ·simp[sg,a];omega
 ·simp[sg,a];omega
theorem J3 (w:H)(A B:Obj):Below w.heap.size w ((w.alloc A).alloc B):=((zR _ _).alloc (zh _) _).alloc sp _
theorem J4 (w:H)(A B C:Obj):Below w.heap.size w (((w.alloc A).alloc B).alloc C):=(J3 w A B).alloc so _
theorem far {w:H}{g o h p:Nat}{x:Value}(a:g≠h):(w.setCell ⟨g,o,O⟩ x).cell? ⟨h,p,O⟩=w.cell? ⟨h,p,O⟩:=
 zp _ _ _ _ (fun e=>a (by injection e))
def qX (w:H)(g:Nat)(x y:Value):Prop:=
 w.cell? ⟨g,0,O⟩=E x/\w.cell? ⟨g,1,O⟩=E y/\w.frozen? ⟨g,0,O⟩=false/\w.frozen? ⟨g,1,O⟩=false/\g<w.heap.size
theorem qX.below {w w':H}{g:Nat}{x y:Value}(h:qX w g x y)(b:Below w.heap.size w w'):qX w' g x y:=by
 obtain⟨c,d,e,f,a⟩:=h;exact⟨(b.cell (p:=⟨g,0,O⟩) a).trans c,(b.cell (p:=⟨g,1,O⟩) a).trans d,(b.frozen (p:=⟨g,0,O⟩) a).trans e,(b.frozen (p:=⟨g,1,O⟩) a).trans f,zv a b.size⟩
theorem qX.new (w:H)(x y:Value)(t:TypeId):qX (w.alloc (cl #[x,y] t)) w.heap.size x y:=by
 refine⟨?_,?_,?_,?_,?_⟩<;>simp
theorem qX.alloc {w:H}{g:Nat}{x y:Value}(h:qX w g x y)(o:Obj):qX (w.alloc o) g x y:=h.below ((zR _ _).alloc (zh _) o)
theorem qX.drew {w:H}{g:Nat}{x y:Value}(h:qX w g x y):qX w.drew g x y:=h
theorem qX.drewN {w:H}{g:Nat}{x y:Value}(h:qX w g x y)(q:Nat):qX (w.drewN q) g x y:=h
theorem zm8 (w:H)(x:Value)(z:Int)(h:zY w x z):
 Calls pg 135 #[x] w fun e w'=>∃v,e= .returned v/\NatV w' v z.natAbs/\Below w.heap.size w w':=by
 obtain⟨_,_,_,_,rfl,a,_⟩:=h.parts;go_enter func135,ntmps135
 go_wp2;go_ret;exact⟨_,rfl,a.alloc _,(zR _ _).alloc (zh _) _⟩
theorem sign_any (w:H)(x:Value)(z:Int)(h:zY w x z):
 Calls pg 242 #[x] w fun e w'=>e= .returned (it .i64 z.sign)/\Below w.heap.size w w':=by
 obtain⟨d,_,_,_,rfl,b,a⟩:=h.parts;cases d with
 |true=>
  have c:z<0:=by have:=a.out;simpa using this
  go_enter func242,ntmps242
  go_wp2;go_ret;exact⟨QW (by rw[jf c]),(zR _ _).alloc (zh _) _⟩
 |false=>
  have c:¬z<0:=by have:=a.out;simpa using this
  by_cases f:z.natAbs=0
  ·have g:z=0:=om;subst g;go_enter func242,ntmps242
   go_wp2_with fail
   refine(zaF _ _ (b.alloc _)).mono ?_;rintro e w' ⟨rfl,rfl⟩;go_wp2;go_ret;exact⟨rfl,(zR _ _).alloc (zh _) _⟩
  ·have i:0<z:=om;go_enter func242,ntmps242
   go_wp2_with fail
   refine(Jq _ _ _ (b.alloc _) f).mono ?_;rintro e w' ⟨rfl,rfl⟩;go_wp2;go_ret;exact⟨QW (by rw[jp i]),(zR _ _).alloc (zh _) _⟩
theorem zeC (w:H)(x:Value)(z:Int)(h:zY w x z):
 Calls pg 209 #[x] w fun e w'=>∃y,e= .returned y/\zY w' y (-z)/\Below w.heap.size w w':=by
 obtain⟨b,_,_,_,rfl,c,a⟩:=h.parts;have f:sg (!b) z.natAbs=-z:=by
  rw[zfG a];cases b<;>simp[sg]
 go_enter func209,ntmps209
 go_wp2_with fail
 refine(jw _ _ _ z.natAbs ((c.alloc _).alloc _)).mono ?_;rintro e w' ⟨y,rfl,a,c⟩;rw[f]at a;obtain⟨i,g,m,j,rfl,l,k⟩:=a.parts;obtain⟨d,_⟩:=bcell c;have a:w'.cell? ⟨w.heap.size+1,0,O⟩=E (G false):=by rw[d _ _ sp];simp
 have b:w'.cell? ⟨w.heap.size+1,1,O⟩=E (V O 0 0):=by rw[d _ _ sp];simp
 clear f;go_wp2;exact zH (v:=ag #[G i,V g m j]) (by simp[results,results209,go_sem,a,b]) rfl ⟨_,rfl,Qv l k a b,
  (((J3 w _ _).trans (c.mono (J3 w _ _).size)).setCell sp _).setCell sp _⟩
theorem zep (w:H)(x y:Value)(z t:Int)(K:Nat)(Z:K<=1073741823)(h:zY w x z)(k:zY w y t)(R:z.natAbs<4294967296^K)(M:t.natAbs<4294967296^K):
 Calls pg 203 #[x,y] w fun e w'=>∃s,e= .returned s/\zY w' s (z+t)/\Below w.heap.size w w':=by
 obtain⟨b,d,l,g,rfl,N,a⟩:=h.parts;obtain⟨o,f,m,i,rfl,P,c⟩:=k.parts;have X:=zfG a;have Y:=zfG c;by_cases W:b=o
 ·subst W;have c:sg b (z.natAbs+t.natAbs)=z+t:=by
   cases b<;>simp[sg]at *<;>omega
  have B:=zi c;have a:(b == b)=true:=sp;clear X Y c;go_enter func203,ntmps203
  go_wp2;have A:qX (((w.alloc (cl #[G b,V d l g] 101)).alloc (cl #[G b,V f m i] 101)).alloc (cl #[G false,V O 0 0] 101)) (w.heap.size+1+1) (G false) (V O 0 0):=by
   have:=qX.new ((w.alloc (cl #[G b,V d l g] 101)).alloc (cl #[G b,V f m i] 101)) (G false) (V O 0 0) 101;simpa using this
  have p:qX (((w.alloc (cl #[G b,V d l g] 101)).alloc (cl #[G b,V f m i] 101)).alloc (cl #[G false,V O 0 0] 101)) (w.heap.size+1) (G b) (V f m i):=by
   have:=(qX.new (w.alloc (cl #[G b,V d l g] 101)) (G b) (V f m i) 101).alloc (cl #[G false,V O 0 0] 101);simpa using this
  have n:qX (((w.alloc (cl #[G b,V d l g] 101)).alloc (cl #[G b,V f m i] 101)).alloc (cl #[G false,V O 0 0] 101)) w.heap.size (G b) (V d l g):=((qX.new w _ _ _).alloc _).alloc _;have u:=J4 w (cl #[G b,V d l g] 101) (cl #[G b,V f m i] 101) (cl #[G false,V O 0 0] 101);go_region_held (fun w'=>w'.cell? ⟨w.heap.size,0,O⟩=E (G b)/\w'.cell? ⟨w.heap.size,1,O⟩=E (V d l g)/\w'.cell? ⟨w.heap.size+1,1,O⟩=E (V f m i)) (first|(refine⟨?_,?_,?_⟩<;>(rw[far,far]<;>first|assumption|omega))|go_keep) (first|(go_at_call 221;refine(plus_any _ _ _ z.natAbs t.natAbs K (by exact NatV.drew (((N.alloc _).alloc _).alloc _)) (by exact NatV.drew (((P.alloc _).alloc _).alloc _)) R M Z).mono ?_;rintro e T ⟨s,rfl,c,a⟩;have j:=n.drew.below a;obtain⟨_,_,_,_,_⟩:=j;have j:=p.drew.below a;obtain⟨_,_,_,_,_⟩:=j)|(go_at_call 129;refine(jw _ _ _ _ c).mono ?_;rintro e U ⟨a0,rfl,r,j⟩;rw[B.out]at r;obtain⟨D,C,S,F,rfl,Q,I⟩:=r.parts;have q:=(n.drew.below a).below j;obtain⟨_,_,_,_,_⟩:=q;have n:=(p.drew.below a).below j;obtain⟨_,_,_,_,_⟩:=n;have L:=(A.drew.below a).below j;obtain⟨p,q,f0,f1,g0⟩:=L))
  have n:=u.trans (Below.mono (w:=((w.alloc (cl #[G b,V d l g] 101)).alloc (cl #[G b,V f m i] 101)).alloc (cl #[G false,V O 0 0] 101)) ⟨a.os,a.tape,a.output,a.size,a.block⟩ u.size);have J:=n.trans (j.mono n.size);go_wp2;exact zH (v:=ag #[G D,V C S F]) (by simp[results,results203,go_sem,p,q]) rfl ⟨_,rfl,Qv Q I p q,
   (J.setCell so _).setCell so _⟩
 ·have a1:(b == o)=false:=by simpa using W
  have A:qX (((w.alloc (cl #[G b,V d l g] 101)).alloc (cl #[G o,V f m i] 101)).alloc (cl #[G false,V O 0 0] 101)) (w.heap.size+1+1) (G false) (V O 0 0):=by
   have:=qX.new ((w.alloc (cl #[G b,V d l g] 101)).alloc (cl #[G o,V f m i] 101)) (G false) (V O 0 0) 101;simpa using this
  have u:=J4 w (cl #[G b,V d l g] 101) (cl #[G o,V f m i] 101) (cl #[G false,V O 0 0] 101);by_cases f:z.natAbs<t.natAbs
  ·have c:sg o ((z.natAbs-t.natAbs)+(t.natAbs-z.natAbs))=z+t:=by
    cases b<;>cases o<;>simp[sg]at *<;>omega
   have B:=zi c;clear X Y c W;go_enter func203,ntmps203
   go_wp2_with fail
   refine(compare_any _ _ _ z.natAbs t.natAbs K (((N.alloc _).alloc _).alloc _) (((P.alloc _).alloc _).alloc _) R M om).mono ?_;rintro e g ⟨rfl,d,rfl⟩;rw[zaA f];go_wp2_with fail
   refine(zhV _ _ _ z.natAbs t.natAbs K (by exact NatV.drewN (((N.alloc _).alloc _).alloc _) d) (by exact NatV.drewN (((P.alloc _).alloc _).alloc _) d) R M Z).mono ?_;rintro e T ⟨s,rfl,c,a⟩;go_wp2_with fail
   refine(jw _ _ _ _ c).mono ?_;rintro e U ⟨a0,rfl,r,j⟩;rw[B.out]at r;obtain⟨D,C,S,F,rfl,Q,I⟩:=r.parts;have L:=((A.drewN d).below a).below j;have n:=u.trans ((Qt a).mono u.size);have J:=n.trans (j.mono n.size);obtain⟨p,q,f0,f1,g0⟩:=L;clear a j n c A;go_wp2;exact zH (v:=ag #[G D,V C S F]) (by simp[results,results203,go_sem,p,q]) rfl ⟨_,rfl,Qv Q I p q,
    (J.setCell so _).setCell so _⟩
  ·have c:sg b ((z.natAbs-t.natAbs)+(t.natAbs-z.natAbs))=z+t:=by
    cases b<;>cases o<;>simp[sg]at *<;>omega
   have B:=zi c;have b:0<=QL z.natAbs t.natAbs:=by
    rcases Z8 t.natAbs z.natAbs with h|h
    ·rw[zaB h];omega
    ·rw[zcw om];omega
   clear X Y c W;go_enter func203,ntmps203
   go_wp2_with fail
   refine(compare_any _ _ _ z.natAbs t.natAbs K (((N.alloc _).alloc _).alloc _) (((P.alloc _).alloc _).alloc _) R M om).mono ?_;rintro e g ⟨rfl,d,rfl⟩;generalize QL z.natAbs t.natAbs=b at *;go_wp2_with fail
   refine(zhV _ _ _ z.natAbs t.natAbs K (by exact NatV.drewN (((N.alloc _).alloc _).alloc _) d) (by exact NatV.drewN (((P.alloc _).alloc _).alloc _) d) R M Z).mono ?_;rintro e T ⟨s,rfl,c,a⟩;go_wp2_with fail
   refine(jw _ _ _ _ c).mono ?_;rintro e U ⟨a0,rfl,r,j⟩;rw[B.out]at r;obtain⟨D,C,S,F,rfl,Q,I⟩:=r.parts;have L:=((A.drewN d).below a).below j;have n:=u.trans ((Qt a).mono u.size);have J:=n.trans (j.mono n.size);obtain⟨p,q,f0,f1,g0⟩:=L;clear a j n c A;go_wp2;exact zH (v:=ag #[G D,V C S F]) (by simp[results,results203,go_sem,p,q]) rfl ⟨_,rfl,Qv Q I p q,
    (J.setCell so _).setCell so _⟩
theorem sg_mul {z t:Int}{b c:Bool}(d:Hid (b=decide (z<0)))(e:Hid (c=decide (t<0))):sg (!(b == c)) (z.natAbs*t.natAbs)=z*t:=by
 have a:=zfG d;have d:=zfG e;rw[a,d];generalize z.natAbs=m;generalize t.natAbs=n;cases b<;>cases c<;>simp[sg,Int.neg_mul,Int.mul_neg]
theorem zcH (w:H)(x y:Value)(z t:Int)(J K:Nat)(a:J+K<=1073741823)(h:zY w x z)(k:zY w y t)(B:z.natAbs<4294967296^J)(q:t.natAbs<4294967296^K):
 Calls pg 205 #[x,y] w fun e w'=>∃s,e= .returned s/\zY w' s (z*t)/\Below w.heap.size w w':=by
 obtain⟨d,b,l,g,rfl,u,a⟩:=h.parts;obtain⟨f,c,j,i,rfl,A,m⟩:=k.parts;have r:=zi (sg_mul a m);have C:qX (((w.alloc (cl #[G d,V b l g] 101)).alloc (cl #[G f,V c j i] 101)).alloc (cl #[G false,V O 0 0] 101)) (w.heap.size+1+1) (G false) (V O 0 0):=by
  have:=qX.new ((w.alloc (cl #[G d,V b l g] 101)).alloc (cl #[G f,V c j i] 101)) (G false) (V O 0 0) 101;simpa using this
 have o:qX (((w.alloc (cl #[G d,V b l g] 101)).alloc (cl #[G f,V c j i] 101)).alloc (cl #[G false,V O 0 0] 101)) (w.heap.size+1) (G f) (V c j i):=by
  have:=(qX.new (w.alloc (cl #[G d,V b l g] 101)) (G f) (V c j i) 101).alloc (cl #[G false,V O 0 0] 101);simpa using this
 have n:qX (((w.alloc (cl #[G d,V b l g] 101)).alloc (cl #[G f,V c j i] 101)).alloc (cl #[G false,V O 0 0] 101)) w.heap.size (G d) (V b l g):=((qX.new w _ _ _).alloc _).alloc _;have p:=J4 w (cl #[G d,V b l g] 101) (cl #[G f,V c j i] 101) (cl #[G false,V O 0 0] 101);go_enter func205,ntmps205
 go_wp2;go_region_held (fun w'=>w'.cell? ⟨w.heap.size,0,O⟩=E (G d)/\w'.cell? ⟨w.heap.size,1,O⟩=E (V b l g)/\w'.cell? ⟨w.heap.size+1,0,O⟩=E (G f)/\w'.cell? ⟨w.heap.size+1,1,O⟩=E (V c j i)) (first|(refine⟨?_,?_,?_,?_⟩<;>(rw[far,far]<;>first|assumption|omega))|go_keep) (first|(go_at_call 204;refine(times_any _ _ _ z.natAbs t.natAbs J K (by exact NatV.drew (((u.alloc _).alloc _).alloc _)) (by exact NatV.drew (((A.alloc _).alloc _).alloc _)) B q om).mono ?_;rintro e I ⟨s,rfl,q,a⟩;have m:=n.drew.below a;obtain⟨_,_,_,_,_⟩:=m;have m:=o.drew.below a;obtain⟨_,_,_,_,_⟩:=m)|(go_at_call 129;refine(jw _ _ _ _ q).mono ?_;rintro e L ⟨_,rfl,q,m⟩;rw[r.out]at q;obtain⟨u,r,F,A,rfl,D,B⟩:=q.parts;have q:=(n.drew.below a).below m;obtain⟨_,_,_,_,_⟩:=q;have n:=(o.drew.below a).below m;obtain⟨_,_,_,_,_⟩:=n;have q:=(C.drew.below a).below m;obtain⟨n,o,_,_,_⟩:=q))
 have q:=p.trans (Below.mono (w:=((w.alloc (cl #[G d,V b l g] 101)).alloc (cl #[G f,V c j i] 101)).alloc (cl #[G false,V O 0 0] 101)) ⟨a.os,a.tape,a.output,a.size,a.block⟩ p.size);have a:=q.trans (m.mono q.size);go_wp2;exact zH (v:=ag #[G u,V r F A]) (by simp[results,results205,go_sem,n,o]) rfl ⟨_,rfl,Qv D B n o,
  (a.setCell so _).setCell so _⟩
theorem zkl (w:H)(n:Nat)(a:n<9223372036854775808):
 Calls pg 152 #[it .i64 (n:Nat)] w fun e w'=>∃s,e= .returned s/\zY w' s (n:Int)/\Below w.heap.size w w':=by
 have g:qX (w.alloc (cl #[G false,V O 0 0] 101)) w.heap.size (G false) (V O 0 0):=qX.new _ _ _ _;have d:Below w.heap.size w (w.alloc (cl #[G false,V O 0 0] 101)):=(zR _ _).alloc (zh _) _;go_enter func152,ntmps152
 go_wp2_with fail
 refine(zeM _ _ n sp om).mono ?_;rintro e f ⟨s,rfl,h,c⟩;go_wp2_with fail
 refine(jw _ _ _ _ h).mono ?_;rintro e r ⟨_,rfl,a,b⟩;rw[show sg false n=(n:Int)from rfl]at a;obtain⟨j,i,q,k,rfl,p,l⟩:=a.parts;have o:=(g.below c).below b;have a:=d.trans (c.mono d.size);have m:=a.trans (b.mono a.size);obtain⟨d,f,_,_,_⟩:=o;clear c b a h g;go_wp2;exact zH (v:=ag #[G j,V i q k]) (by simp[results,results152,go_sem,d,f]) rfl ⟨_,rfl,Qv p l d f,
  (m.setCell sp _).setCell sp _⟩
theorem zlQ {z:Int}{n:Nat}(h:0<=z):sg false (z.natAbs/n)=z/(n:Int):=by
 obtain⟨_,rfl⟩:=Int.eq_ofNat_of_zero_le h;simp[sg]
theorem floor_neg0 {z:Int}{n:Nat}(b:n≠0)(h:z<0)(c:z.natAbs%n=0):sg true (z.natAbs/n)=z/(n:Int):=by
 obtain⟨m,hm⟩:∃m:Nat,z=-(m:Int):=⟨z.natAbs,om⟩;subst hm;rw[QX,Zc]at *;have a:=zaG m n;rw[c,qy]at a;simp only[sg,jo];rw[<-a,Nat.mul_div_cancel_left _ (Zm b)];rw[JW,<-Int.mul_neg,Int.mul_ediv_cancel_left _ om]
theorem floor_neg1 {z:Int}{n:Nat}(b:n≠0)(h:z<0)(a:z.natAbs%n≠0):sg true (z.natAbs/n+1)=z/(n:Int):=by
 obtain⟨m,hm⟩:∃m:Nat,z=-(m:Int):=⟨z.natAbs,om⟩;subst hm;rw[QX,Zc]at *;have a:=zaG m n;have c:=Qx m (Zm b);generalize m/n=q at *;generalize m%n=r at *;simp only[sg,jo];have c:(-(m:Int))=(n:Int)*(-((q+1:Nat):Int))+((n-r:Nat):Int):=by
  rw[<-a,Int.mul_neg];have a:((n:Int)*((q+1:Nat):Int))=(n:Int)*q+n:=by rw[Int.natCast_add,Int.mul_add];simp
  have b:(((n*q+r:Nat)):Int)=(n:Int)*q+r:=sp;rw[a,b];omega
 rw[c,Int.mul_add_ediv_left _ _ om];rw[Int.ediv_eq_zero_of_lt om om,Int.add_zero]
theorem zfj (K:Nat)(a:K<=1073741822)(R:zca K)(w:H)(x v:Value)(z:Int)(n:Nat)(h:zY w x z)(T:NatV w v n)(hn:n≠0)(P:z.natAbs<4294967296^K)(S:n<4294967296^K):
 Calls pg 137 #[x,v] w fun e w'=>∃s,e= .returned s/\zY w' s (z/(n:Int))/\Below w.heap.size w w':=by
 obtain⟨b,a,l,c,rfl,U,N⟩:=h.parts;have k:qX ((w.alloc (cl #[G b,V a l c] 101)).alloc (cl #[G false,V O 0 0] 101)) (w.heap.size+1) (G false) (V O 0 0):=by
  have:=qX.new (w.alloc (cl #[G b,V a l c] 101)) (G false) (V O 0 0) 101;simpa using this
 have M:qX ((w.alloc (cl #[G b,V a l c] 101)).alloc (cl #[G false,V O 0 0] 101)) w.heap.size (G b) (V a l c):=(qX.new w _ _ _).alloc _;have j:=J3 w (cl #[G b,V a l c] 101) (cl #[G false,V O 0 0] 101);have a2:z.natAbs/n<4294967296^K:=zr (Qh _ _) P;cases b with
 |false=>
  have Q:0<=z:=by have:=N.out;simp at this;omega
  have l:=zi (zlQ (n:=n) Q);go_enter func137,ntmps137
  go_wp2_with fail
  refine(R _ _ _ z.natAbs n ((U.alloc _).alloc _) ((T.alloc _).alloc _) P S).mono ?_;rintro e X ⟨s,a0,rfl,g,y,a⟩;have u:=M.below a;obtain⟨C,D,F,I,J⟩:=u;go_wp2_with fail
  refine(jw _ _ _ _ g).mono ?_;rintro e L ⟨a1,rfl,i,c⟩;rw[l.out]at i;obtain⟨o,m,B,p,rfl,A,q⟩:=i.parts;have t:=(k.below a).below c;have b:=j.trans (a.mono j.size);have r:=b.trans (c.mono b.size);obtain⟨d,f,Y,Z,g0⟩:=t;clear a c b g k C D F I J;go_wp2;exact zH (v:=ag #[G o,V m B p]) (by simp[results,results137,go_sem,d,f]) rfl ⟨_,rfl,Qv A q d f,
   (r.setCell sp _).setCell sp _⟩
 |true=>
  have Q:z<0:=by have:=N.out;simp at this;omega
  by_cases N:z.natAbs%n=0
  ·have l:=zi (floor_neg0 hn Q N);go_enter func137,ntmps137
   go_wp2_with fail
   refine(R _ _ _ z.natAbs n ((U.alloc _).alloc _) ((T.alloc _).alloc _) P S).mono ?_;rintro e X ⟨s,a0,rfl,g,y,a⟩;rw[N]at y;have u:=M.below a;obtain⟨C,D,F,I,J⟩:=u;go_wp2_with fail
   refine(zaF _ _ y).mono ?_;rintro e W ⟨rfl,rfl⟩;go_wp2_with fail
   refine(jw _ _ _ _ g).mono ?_;rintro e L ⟨a1,rfl,i,c⟩;rw[l.out]at i;obtain⟨o,m,B,p,rfl,A,q⟩:=i.parts;have t:=(k.below a).below c;have b:=j.trans (a.mono j.size);have r:=b.trans (c.mono b.size);obtain⟨d,f,Y,Z,g0⟩:=t;clear a c b g k C D F I J;go_wp2;exact zH (v:=ag #[G o,V m B p]) (by simp[results,results137,go_sem,d,f]) rfl ⟨_,rfl,Qv A q d f,
    (r.setCell sp _).setCell sp _⟩
  ·have l:=zi (floor_neg1 hn Q N);go_enter func137,ntmps137
   go_wp2_with fail
   refine(R _ _ _ z.natAbs n ((U.alloc _).alloc _) ((T.alloc _).alloc _) P S).mono ?_;rintro e X ⟨s,a0,rfl,g,y,a⟩;have u:=M.below a;obtain⟨C,D,F,I,J⟩:=u;go_wp2_with fail
   refine(Jq _ _ _ y N).mono ?_;rintro e W ⟨rfl,rfl⟩;go_wp2_with fail
   refine(zeM _ _ 1 sp om).mono ?_;rintro e U ⟨_,rfl,y,u⟩;go_wp2_with fail
   refine(plus_any _ _ _ _ 1 (K+1) (g.below u) y (zv a2 (pow_mono om)) (zv dc (pow_mono (show 1<=K+1 by omega))) om).mono ?_;rintro e X ⟨_,rfl,P,y⟩;have N:=((M.below a).below u).below y;obtain⟨M,Q,R,S,T⟩:=N;go_wp2_with fail
   refine(jw _ _ _ _ P).mono ?_;rintro e L ⟨a1,rfl,i,c⟩;rw[l.out]at i;obtain⟨o,m,B,p,rfl,A,q⟩:=i.parts;have t:=(((k.below a).below u).below y).below c;have b:=j.trans (a.mono j.size);have i:=b.trans (u.mono b.size);have j:=i.trans (y.mono i.size);have r:=j.trans (c.mono j.size);obtain⟨d,f,Y,Z,g0⟩:=t;clear a c b g k C D F I J M Q R S T;go_wp2;exact zH (v:=ag #[G o,V m B p]) (by simp[results,results137,go_sem,d,f]) rfl ⟨_,rfl,Qv A q d f,
    (r.setCell sp _).setCell sp _⟩
theorem ziY (a b:Nat):(QL a b<0↔a<b)/\(QL a b=0↔a=b):=by
 rcases Jo a b with h|h|h
 ·rw[zaA h];omega
 ·rw[zcw h];omega
 ·rw[zaB h];omega
theorem zbJ (w:H)(x y:Value)(z t:Int)(K:Nat)(a:K<=1073741823)(h:zY w x z)(k:zY w y t)(D:z.natAbs<4294967296^K)(A:t.natAbs<4294967296^K):
 Calls pg 151 #[x,y] w fun e w'=>∃c:Int,e= .returned (it .i64 c)/\(c<0↔z<t)/\(c=0↔z=t)/\-2<=c/\c<=2/\Below w.heap.size w w':=by
 have F:=h;have J:=k;obtain⟨b,f,l,i,rfl,B,u⟩:=h.parts;obtain⟨c,g,m,j,rfl,C,v⟩:=k.parts;have s:=J3 w (cl #[G b,V f l i] 101) (cl #[G c,V g m j] 101);have p:∀a b,-2<=QL a b/\QL a b<=2:=by
  intro a b;unfold QL;split;·omega
  ·split<;>omega
 by_cases o:b=c
 ·subst o;have I:(b == b)=true:=sp;cases b with
  |true=>
   have r:z<0:=by have:=u.out;simp at this;omega
   have q:t<0:=by have:=v.out;simp at this;omega
   have a:=ziY t.natAbs z.natAbs;have d:Hid ((QL t.natAbs z.natAbs<0↔z<t)/\(QL t.natAbs z.natAbs=0↔z=t)):=by
    rw[Hid,a.1,a.2];omega
   have n:=zi (p t.natAbs z.natAbs);clear a p;go_enter func151,ntmps151
   go_wp2_with fail
   refine(compare_any _ _ _ t.natAbs z.natAbs K ((C.alloc _).alloc _) ((B.alloc _).alloc _) A D om).mono ?_;rintro e M ⟨rfl,L,rfl⟩;go_wp2;go_ret;exact⟨_,rfl,d.out.1,d.out.2,n.out.1,n.out.2,zdD s⟩
  |false=>
   have r:0<=z:=by have:=u.out;simp at this;omega
   have q:0<=t:=by have:=v.out;simp at this;omega
   have a:=ziY z.natAbs t.natAbs;have d:Hid ((QL z.natAbs t.natAbs<0↔z<t)/\(QL z.natAbs t.natAbs=0↔z=t)):=by
    rw[Hid,a.1,a.2];omega
   have n:=zi (p z.natAbs t.natAbs);clear a p;go_enter func151,ntmps151
   go_wp2_with fail
   refine(compare_any _ _ _ z.natAbs t.natAbs K ((B.alloc _).alloc _) ((C.alloc _).alloc _) D A om).mono ?_;rintro e M ⟨rfl,L,rfl⟩;go_wp2;go_ret;exact⟨_,rfl,d.out.1,d.out.2,n.out.1,n.out.2,zdD s⟩
 ·have I:(b == c)=false:=by simpa using o
  have B:qX ((w.alloc (cl #[G b,V f l i] 101)).alloc (cl #[G c,V g m j] 101)) (w.heap.size+1) (G c) (V g m j):=by
   have:=qX.new (w.alloc (cl #[G b,V f l i] 101)) (G c) (V g m j) 101;simpa using this
  have A:qX ((w.alloc (cl #[G b,V f l i] 101)).alloc (cl #[G c,V g m j] 101)) w.heap.size (G b) (V f l i):=(qX.new w _ _ _).alloc _;have C:-1<=z.sign/\z.sign<=1/\-1<=t.sign/\t.sign<=1:=by
   rcases Int.lt_trichotomy z 0 with h|h|h<;>rcases Int.lt_trichotomy t 0 with k|k|k<;>simp[jf,jp,h,k]
  have d:Hid ((z.sign-t.sign<0↔z<t)/\(z.sign-t.sign=0↔z=t)):=by
   have a:=u.out;have n:=v.out;rw[Hid];by_cases r:z<0
   ·have q:0<=t:=by
     rcases Int.lt_or_le t 0 with h|h
     ·exact absurd (by rw[a,n];simp[r,h]) o
     ·exact h
    rw[jf r];rcases Int.lt_or_eq_of_le q with h|h
    ·rw[jp h];omega
    ·rw[<-h];simp;omega
   ·have q:t<0:=by
     rcases Int.lt_or_le t 0 with h|h
     ·exact h
     ·exact absurd (by rw[a,n];simp[r];omega) o
    rw[jf q];rcases Int.lt_or_eq_of_le (show 0<=z by omega)with h|h
    ·rw[jp h];omega
    ·rw[<-h];simp;omega
  obtain⟨_,_,_,_⟩:=C;have q:Hid (IntKind.i64.wrap (z.sign-t.sign)=z.sign-t.sign):=by
   rw[Hid];have a:-2<=z.sign-t.sign/\z.sign-t.sign<=2:=om;generalize z.sign-t.sign=n at a;simp[IntKind.wrap,IntKind.signed,IntKind.bits];omega
  clear p o;go_enter func151,ntmps151
  go_wp2;go_region_held (fun w'=>w'.cell? ⟨w.heap.size,0,O⟩=E (G b)/\w'.cell? ⟨w.heap.size,1,O⟩=E (V f l i)/\w'.cell? ⟨w.heap.size+1,0,O⟩=E (G c)/\w'.cell? ⟨w.heap.size+1,1,O⟩=E (V g m j)) (go_keep) (first|(go_at_call_of 242 (G b);refine(sign_any _ _ z (by exact zY.drewN ((F.alloc _).alloc _) 1)).mono ?_;rintro e p ⟨rfl,a⟩;have n:=A.drew.below a;obtain⟨_,_,_,_,_⟩:=n;have n:=B.drew.below a;obtain⟨_,_,_,_,_⟩:=n)|(go_at_call_of 242 (G c);refine(sign_any _ _ t (by exact(zY.drewN ((J.alloc _).alloc _) 1).below a)).mono ?_;rintro e r ⟨rfl,n⟩;have o:=(A.drew.below a).below n;obtain⟨_,_,_,_,_⟩:=o;have o:=(B.drew.below a).below n;obtain⟨_,_,_,_,_⟩:=o))
  have o:=s.trans (Below.mono (w:=(w.alloc (cl #[G b,V f l i] 101)).alloc (cl #[G c,V g m j] 101)) ⟨a.os,a.tape,a.output,a.size,a.block⟩ s.size);have a:=o.trans (n.mono o.size);go_wp2;go_ret;exact⟨z.sign-t.sign,QW (by rw[q.out]),d.out.1,d.out.2,om,om,a⟩
def lowN (q:Nat):Nat:=if q=1 then 0 else q
def qP (w:H)(x:Value)(p:Int)(q:Nat):Prop:=
 ∃b v u,x=ag #[G b,v,u]/\NatV w v p.natAbs/\Hid (b=decide (p<0))/\NatV w u (lowN q)/\0<q/\Hid (Nat.gcd p.natAbs q=1)
theorem qP.below {w w':H}{x:Value}{p:Int}{q:Nat}(h:qP w x p q)(a:Below w.heap.size w w'):qP w' x p q:=by
 obtain⟨b,v,u,c,d,e,f,g⟩:=h;exact⟨b,v,u,c,d.below a,e,f.below a,g⟩
theorem qP.alloc {w:H}{x:Value}{p:Int}{q:Nat}(h:qP w x p q)(o:Obj):qP (w.alloc o) x p q:=h.below ((zR _ _).alloc (zh _) o)
theorem qP.parts {w:H}{x:Value}{p:Int}{q:Nat}(h:qP w x p q):∃b a l cap c e d,x=ag #[G b,V a l cap,V c e d]/\NatV w (V a l cap) p.natAbs/\Hid (b=decide (p<0))/\NatV w (V c e d) (lowN q)/\0<q/\Hid (Nat.gcd p.natAbs q=1):=by
 obtain⟨b,_,_,i,f,j,g,k⟩:=h;obtain⟨a,l,cap,rfl⟩:=f.slice;obtain⟨c,e,d,rfl⟩:=g.slice;exact⟨b,a,l,cap,c,e,d,i,f,j,g,k⟩
def qk (w:H)(g:Nat)(x y z:Value):Prop:=
 w.cell? ⟨g,0,O⟩=E x/\w.cell? ⟨g,1,O⟩=E y/\w.cell? ⟨g,2,O⟩=E z/\w.frozen? ⟨g,0,O⟩=false/\w.frozen? ⟨g,1,O⟩=false/\w.frozen? ⟨g,2,O⟩=false/\g<w.heap.size
theorem qk.below {w w':H}{g:Nat}{x y z:Value}(h:qk w g x y z)(b:Below w.heap.size w w'):qk w' g x y z:=by
 obtain⟨c,d,e,f,i,j,a⟩:=h;exact⟨(b.cell (p:=⟨g,0,O⟩) a).trans c,(b.cell (p:=⟨g,1,O⟩) a).trans d,(b.cell (p:=⟨g,2,O⟩) a).trans e,(b.frozen (p:=⟨g,0,O⟩) a).trans f,(b.frozen (p:=⟨g,1,O⟩) a).trans i,(b.frozen (p:=⟨g,2,O⟩) a).trans j,zv a b.size⟩
theorem qk.new (w:H)(x y z:Value)(t:TypeId):qk (w.alloc (cl #[x,y,z] t)) w.heap.size x y z:=by
 refine⟨?_,?_,?_,?_,?_,?_,?_⟩<;>simp
theorem qk.alloc {w:H}{g:Nat}{x y z:Value}(h:qk w g x y z)(o:Obj):qk (w.alloc o) g x y z:=h.below ((zR _ _).alloc (zh _) o)
theorem qk.drew {w:H}{g:Nat}{x y z:Value}(h:qk w g x y z):qk w.drew g x y z:=h
theorem qk.drewN {w:H}{g:Nat}{x y z:Value}(h:qk w g x y z)(q:Nat):qk (w.drewN q) g x y z:=h
theorem qk.new1 (w:H)(A:Obj)(x y z:Value)(t:TypeId):qk ((w.alloc A).alloc (cl #[x,y,z] t)) (w.heap.size+1) x y z:=by
 have:=qk.new (w.alloc A) x y z t;simpa using this
theorem qk.new2 (w:H)(A B:Obj)(x y z:Value)(t:TypeId):qk (((w.alloc A).alloc B).alloc (cl #[x,y,z] t)) (w.heap.size+1+1) x y z:=by
 have:=qk.new ((w.alloc A).alloc B) x y z t;simpa using this
theorem qX.new1 (w:H)(A:Obj)(x y:Value)(t:TypeId):qX ((w.alloc A).alloc (cl #[x,y] t)) (w.heap.size+1) x y:=by
 have:=qX.new (w.alloc A) x y t;simpa using this
theorem jP {w:H}{g:Nat}{f b:Bool}{a c:Option Addr}{i d j e:Nat}{v u:Value}{p:Int}{q:Nat}(r:NatV w v p.natAbs)(l:Hid (b=decide (p<0)))(o:NatV w u (lowN q))(n:0<q)(m:Hid (Nat.gcd p.natAbs q=1))
 (h:w.cell? ⟨g,0,O⟩=E (G f)) (h1:w.cell? ⟨g,1,O⟩=E (V a i d)) (k:w.cell? ⟨g,2,O⟩=E (V c j e)):
 qP (((w.setCell ⟨g,0,O⟩ (G b)).setCell ⟨g,1,O⟩ v).setCell ⟨g,2,O⟩ u) (ag #[G b,v,u]) p q:=by
 have f:(w.setCell ⟨g,0,O⟩ (G b)).cell? ⟨g,1,O⟩=E (V a i d):=by rw[zp _ _ _ _ sp];exact h1
 have a:((w.setCell ⟨g,0,O⟩ (G b)).setCell ⟨g,1,O⟩ v).cell? ⟨g,2,O⟩=E (V c j e):=by
  rw[zp _ _ _ _ sp,zp _ _ _ _ sp];exact k
 exact⟨b,v,u,rfl,((r.setCell h sp _).setCell f sp _).setCell a sp _,l,((o.setCell h sp _).setCell f sp _).setCell a sp _,n,m⟩
theorem zf4 (w:H)(x:Value)(z:Int)(h:zY w x z):
 Calls pg 75 #[x] w fun e w'=>∃s,e= .returned s/\qP w' s z 1/\Below w.heap.size w w':=by
 obtain⟨b,a,l,c,rfl,f,d⟩:=h.parts;go_enter func75,ntmps75
 go_wp2;exact zH (v:=ag #[G b,V a l c,V O 0 0]) (by simp[results,results75,go_sem]) rfl ⟨_,rfl,⟨b,_,_,rfl,(f.alloc _).alloc _,d,NatV.zero _ _ _,om,J5 _⟩,J3 w _ _⟩
theorem zdo (w:H)(x:Value)(p:Int)(h:qP w x p 1):
 Calls pg 79 #[x] w fun e w'=>e= .returned (G true)/\Below w.heap.size w w':=by
 obtain⟨_,_,_,_,_,_,_,rfl,_,_,a,_,_⟩:=h.parts;rw[show lowN 1=0 from rfl]at a;go_enter func79,ntmps79
 go_wp2_with fail
 refine(zaF _ _ (a.alloc _)).mono ?_;rintro e w' ⟨rfl,rfl⟩;go_wp2;go_ret;exact⟨rfl,(zR _ _).alloc (zh _) _⟩
theorem zbZ {q:Nat}(a:0<q)(h1:q≠1):lowN q=q/\lowN q≠0:=by
 unfold lowN;rw[zW h1];omega
theorem zdQ (w:H)(x:Value)(p:Int)(q:Nat)(h:qP w x p q)(h1:q≠1):
 Calls pg 79 #[x] w fun e w'=>e= .returned (G false)/\Below w.heap.size w w':=by
 obtain⟨_,_,_,_,_,_,_,rfl,_,_,b,a,_⟩:=h.parts;go_enter func79,ntmps79
 go_wp2_with fail
 refine(Jq _ _ _ (b.alloc _) (zbZ a h1).2).mono ?_;rintro e w' ⟨rfl,rfl⟩;go_wp2;go_ret;exact⟨rfl,(zR _ _).alloc (zh _) _⟩
theorem zlR (w:H)(x:Value)(p:Int)(q:Nat)(h:qP w x p q):
 Calls pg 208 #[x] w fun e w'=>e= .returned (it .i64 p.sign)/\Below w.heap.size w w':=by
 obtain⟨b,c,l,f,d,k,g,rfl,j,i,_,_,_⟩:=h.parts;have a:Below w.heap.size w (w.alloc (cl #[G b,V c l f,V d k g] 103)):=(zR _ _).alloc (zh _) _;go_enter func208,ntmps208
 go_wp2_with fail
 refine(sign_any _ _ p ⟨b,_,rfl,j.alloc _,i⟩).mono ?_;rintro e w' ⟨rfl,b⟩;go_wp2;go_ret;exact⟨rfl,a.trans (b.mono a.size)⟩
theorem JE (w:H)(x:Value)(p:Int)(q:Nat)(h:qP w x p q):
 Calls pg 201 #[x] w fun e w'=>∃v,e= .returned v/\NatV w' v q/\Below w.heap.size w w':=by
 have j:=h;obtain⟨d,a,l,f,c,i,g,rfl,_,_,k,n,_⟩:=h.parts;have b:Below w.heap.size w (w.alloc (cl #[G d,V a l f,V c i g] 103)):=(zR _ _).alloc (zh _) _;have m:qk (w.alloc (cl #[G d,V a l f,V c i g] 103)) w.heap.size (G d) (V a l f) (V c i g):=qk.new _ _ _ _ _;by_cases c:q=1
 ·subst c;go_enter func201,ntmps201
  go_wp2_with fail
  refine(zdo _ _ p (j.alloc _)).mono ?_;rintro e w' ⟨rfl,a⟩;go_wp2_with fail
  refine(zeM _ _ 1 sp om).mono ?_;rintro e d ⟨v,rfl,g,f⟩;go_wp2;go_ret;have d:=b.trans (a.mono b.size);exact⟨_,rfl,g,d.trans (f.mono d.size)⟩
 ·rw[(zbZ n c).1]at k;go_enter func201,ntmps201
  go_wp2_with fail
  refine(zdQ _ _ p q (j.alloc _) c).mono ?_;rintro e w' ⟨rfl,a⟩;have c:=m.below a;obtain⟨_,_,_,_,_,_,_⟩:=c;go_wp2;go_ret;exact⟨_,rfl,(k.alloc _).below a,b.trans (a.mono b.size)⟩
theorem qk.far {w:H}{g h o:Nat}{x y z u:Value}(b:qk w g x y z)(a:h≠g):qk (w.setCell ⟨h,o,O⟩ u) g x y z:=by
 obtain⟨c,d,e,f,i,j,k⟩:=b;exact⟨by rw[Go.Proofs.YtnhfdcfnojnofaaGreatDoor.far a];exact c,by rw[Go.Proofs.YtnhfdcfnojnofaaGreatDoor.far a];exact d,by rw[Go.Proofs.YtnhfdcfnojnofaaGreatDoor.far a];exact e,by simpa using f,by simpa using i,by simpa using j,by simpa using k⟩
theorem zhu {z:Int}{n:Nat}(b:n≠0):0<Nat.gcd z.natAbs n/\0<n/Nat.gcd z.natAbs n/\Nat.gcd (z/(Nat.gcd z.natAbs n:Int)).natAbs (n/Nat.gcd z.natAbs n)=1:=by
 have a:0<Nat.gcd z.natAbs n:=Qn _ (Zm b);refine⟨a,zaO (QV (Zm b) (ZZ _ _)) a,?_⟩;have b:(z/(Nat.gcd z.natAbs n:Int)).natAbs=z.natAbs/Nat.gcd z.natAbs n:=by
  rw[jq];·simp
  ·exact Q3.2 (ZY _ _)
 rw[b];rw[Nat.gcd_div (ZY _ _) (ZZ _ _),Nat.div_self a]
theorem zcb (w:H)(x v:Value)(z:Int)(n:Nat)(h:zY w x z)(p:NatV w v n)(r:0<n)(M:Hid (Nat.gcd z.natAbs n=1)):
 Calls pg 139 #[x,v] w fun e w'=>∃s,e= .returned s/\qP w' s z n/\Below w.heap.size w w':=by
 have d:=h;obtain⟨b,a,l,c,rfl,T,J⟩:=h.parts;obtain⟨y,X,B,rfl⟩:=p.slice;have m:qX ((w.alloc (cl #[G b,V a l c] 101)).alloc (cl #[G false,V O 0 0,V O 0 0] 103)) w.heap.size (G b) (V a l c):=(qX.new _ _ _ _).alloc _;have j:qk ((w.alloc (cl #[G b,V a l c] 101)).alloc (cl #[G false,V O 0 0,V O 0 0] 103)) (w.heap.size+1) (G false) (V O 0 0) (V O 0 0):=qk.new1 _ _ _ _ _ _;have i:=J3 w (cl #[G b,V a l c] 101) (cl #[G false,V O 0 0,V O 0 0] 103);by_cases k:n=1
 ·subst k;go_enter func139,ntmps139
  go_wp2_with fail
  refine(zem _ _ ((p.alloc _).alloc _)).mono ?_;rintro e w' ⟨rfl,rfl⟩;go_wp2_with fail
  refine(zf4 _ _ z ((d.alloc _).alloc _)).mono ?_;rintro e d ⟨s,rfl,q,o⟩;obtain⟨A,t,Y,U,u,Z,W,rfl,N,P,Q,R,S⟩:=q.parts;have L:=j.below o;have K:=i.trans (o.mono i.size);obtain⟨d,f,g,C,D,F,I⟩:=L;clear o q m j;go_wp2;exact zH (v:=ag #[G A,V t Y U,V u Z W]) (by simp[results,results139,go_sem,d,f,g]) rfl ⟨_,rfl,jP N P Q R S d f g,
   ((K.setCell sp _).setCell sp _).setCell sp _⟩
 ·have q:=(zbZ r k).1;have o:=(p.alloc (cl #[G b,V a l c] 101)).alloc (cl #[G false,V O 0 0,V O 0 0] 103);have p:=(T.alloc (cl #[G b,V a l c] 101)).alloc (cl #[G false,V O 0 0,V O 0 0] 103);have t:=zi q;clear q;go_enter func139,ntmps139
  go_wp2_with fail
  refine(zeX _ _ _ o k).mono ?_;rintro e w' ⟨rfl,k⟩;rw[<-k]at o p m j i;clear k;obtain⟨_,_,_,_,_⟩:=m;obtain⟨d,f,g,C,D,F,I⟩:=j;go_wp2;exact zH (v:=ag #[G b,V a l c,V y X B]) (by simp[results,results139,go_sem,d,f,g]) rfl ⟨_,rfl,jP p J (by rw[t.out];exact o) r M d f g,
   ((i.setCell sp _).setCell sp _).setCell sp _⟩
theorem zdp (K:Nat)(hK:K<=1073741822)(hO:zca K)(w:H)(x v:Value)(z:Int)(n:Nat)(h:zY w x z)(N:NatV w v n)(hn:n≠0)(hz:z.natAbs<4294967296^K)(a9:n<4294967296^K):
 Calls pg 78 #[x,v] w fun e w'=>∃s,e= .returned s/\qP w' s (z/(Nat.gcd z.natAbs n:Int)) (n/Nat.gcd z.natAbs n)/\Below w.heap.size w w':=by
 have h0:=h;obtain⟨q,o,t,r,rfl,hx,hb⟩:=h.parts;obtain⟨_,_,_,rfl⟩:=N.slice;have a7:qX ((w.alloc (cl #[G q,V o t r] 101)).alloc (cl #[G false,V O 0 0,V O 0 0] 103)) w.heap.size (G q) (V o t r):=(qX.new _ _ _ _).alloc _;have S:qk ((w.alloc (cl #[G q,V o t r] 101)).alloc (cl #[G false,V O 0 0,V O 0 0] 103)) (w.heap.size+1) (G false) (V O 0 0) (V O 0 0):=qk.new1 _ _ _ _ _ _;have R:=J3 w (cl #[G q,V o t r] 101) (cl #[G false,V O 0 0,V O 0 0] 103);by_cases h1:n=1
 ·subst h1;have y:Nat.gcd z.natAbs 1=1:=J5 _;rw[y,Nat.div_self om,JX,zbK];go_enter func78,ntmps78
  go_wp2_with fail
  refine(zem _ _ ((N.alloc _).alloc _)).mono ?_;rintro e w' ⟨rfl,rfl⟩;go_wp2_with fail
  refine(zf4 _ _ z ((h0.alloc _).alloc _)).mono ?_;rintro e w2 ⟨s,rfl,l,a⟩;obtain⟨b,c,f,d,a3,l3,k3,rfl,T,aa,aM,aN,aO⟩:=l.parts;have M:=S.below a;have aI:=R.trans (a.mono R.size);obtain⟨i,j,k,F,I,J,L⟩:=M;clear a l a7 S;go_wp2;exact zH (v:=ag #[G b,V c f d,V a3 l3 k3]) (by simp[results,results78,go_sem,i,j,k]) rfl ⟨_,rfl,jP T aa aM aN aO i j k,
   ((aI.setCell sp _).setCell sp _).setCell sp _⟩
 ·obtain⟨_,aw,ay⟩:=zhu (z:=z) hn;have aL:Nat.gcd z.natAbs n<=n:=QV (Zm hn) (ZZ _ _);have aA:=zr aL a9;have aD:lowN (n/Nat.gcd z.natAbs n)=if n/Nat.gcd z.natAbs n=1 then 0 else n/Nat.gcd z.natAbs n:=rfl
  generalize az:Nat.gcd z.natAbs n=B at *;have HG:=zi az;have aj:=zi ay;have aQ:=zi aD;clear az ay aD;go_enter func78,ntmps78
  go_wp2_with fail
  refine(zeX _ _ _ ((N.alloc _).alloc _) h1).mono ?_;rintro e w' ⟨rfl,rfl⟩;go_wp2_with fail
  refine(zm8 _ _ z ((h0.alloc _).alloc _)).mono ?_;rintro e w2 ⟨sv,rfl,l,a⟩;go_wp2_with fail
  refine(zkk K om hO _ _ _ z.natAbs n l (((N.alloc _).alloc _).below a) hz a9).mono ?_;rintro e w3 ⟨gv,rfl,D,ap⟩;rw[HG.out]at D;have A:Below ((w.alloc (cl #[G q,V o t r] 101)).alloc (cl #[G false,V O 0 0,V O 0 0] 103)).heap.size ((w.alloc (cl #[G q,V o t r] 101)).alloc (cl #[G false,V O 0 0,V O 0 0] 103)) w3:=a.trans (ap.mono a.size);have ai:=((N.alloc _).alloc _).below A;have aH:=((hx.alloc _).alloc _).below A;have ak:=((h0.alloc _).alloc _).below A;have aq:=a7.below A;have a8:=S.below A;have Q:=R.trans (A.mono R.size);clear a ap A l a7 S;by_cases ax:B=1
  ·subst ax;rw[Nat.div_one,JX,zbK]at *;obtain⟨U,W,X,Y,u⟩:=aq;obtain⟨i,j,k,F,I,J,L⟩:=a8;go_wp2_with fail
   refine(zem _ _ D).mono ?_;rintro e w4 ⟨rfl,rfl⟩;go_wp2_with fail
   refine(zcb _ _ _ z n ⟨q,_,rfl,aH,hb⟩ ai aw aj).mono ?_;rintro e w9 ⟨s,rfl,l,a⟩;obtain⟨b3,Z,l5,k5,a6,l6,k6,rfl,ab,ad,ae,af,ah⟩:=l.parts;have a1:=Q.trans (a.mono Q.size);have M:=qk.below ⟨i,j,k,F,I,J,L⟩ a;clear i j k F I J L U W X Y u;obtain⟨i,j,k,F,I,J,L⟩:=M;clear a l;go_wp2;exact zH (v:=ag #[G b3,V Z l5 k5,V a6 l6 k6]) (by simp[results,results78,go_sem,i,j,k]) rfl ⟨_,rfl,by rw[JX,zbK,Nat.div_one];exact jP ab ad ae af ah i j k,
    ((a1.setCell sp _).setCell sp _).setCell sp _⟩
  ·have aK:B≠0:=om;obtain⟨U,W,X,Y,u⟩:=aq;go_wp2_with fail
   refine(zeX _ _ _ D ax).mono ?_;rintro e w4 ⟨rfl,rfl⟩;go_wp2_with fail
   refine(zfj K hK hO _ _ _ z B ak D aK hz aA).mono ?_;rintro e g ⟨fv,rfl,aJ,m⟩;have al:=Q.trans (m.mono Q.size);have ar:=a8.below m;have aF:=ai.below m;have aB:=D.below m;have P:=(m.cell (p:=⟨w.heap.size,0,O⟩) u).trans U;have q1:=(m.cell (p:=⟨w.heap.size,1,O⟩) u).trans W;have q2:=(m.frozen (p:=⟨w.heap.size,0,O⟩) u).trans X;have q3:=(m.frozen (p:=⟨w.heap.size,1,O⟩) u).trans Y;have q4:=zv u m.size;obtain⟨b,c,f,d,rfl,T,aa⟩:=aJ.parts;clear m a8 U W X Y u ai D ak aH;have y:(g.setCell ⟨w.heap.size,0,O⟩ (G b)).cell? ⟨w.heap.size,1,O⟩=E (V o t r):=by rw[zp _ _ _ _ sp];exact q1
   have aE:=(T.setCell P sp (G b)).setCell y sp (V c f d);have aG:=(aF.setCell P sp (G b)).setCell y sp (V c f d);have aC:=(aB.setCell P sp (G b)).setCell y sp (V c f d);have au:qk ((g.setCell ⟨w.heap.size,0,O⟩ (G b)).setCell ⟨w.heap.size,1,O⟩ (V c f d)) (w.heap.size+1) (G false) (V O 0 0) (V O 0 0):=(ar.far om).far om;have a0:Below w.heap.size w ((g.setCell ⟨w.heap.size,0,O⟩ (G b)).setCell ⟨w.heap.size,1,O⟩ (V c f d)):=(al.setCell sp _).setCell sp _;have r0:((g.setCell ⟨w.heap.size,0,O⟩ (G b)).setCell ⟨w.heap.size,1,O⟩ (V c f d)).cell? ⟨w.heap.size,0,O⟩=E (G b):=by
    rw[zp _ _ _ _ sp];exact zu _ _ _ P
   have r1:((g.setCell ⟨w.heap.size,0,O⟩ (G b)).setCell ⟨w.heap.size,1,O⟩ (V c f d)).cell? ⟨w.heap.size,1,O⟩=E (V c f d):=zu _ _ _ y;have r4:w.heap.size<((g.setCell ⟨w.heap.size,0,O⟩ (G b)).setCell ⟨w.heap.size,1,O⟩ (V c f d)).heap.size:=by simpa using q4
   go_wp2_with fail
   refine(hO _ _ _ n B aG aC a9 aA).mono ?_;rintro e w7 ⟨_,rv,rfl,hq,_,C⟩;have av:=au.below C;have aP:=aE.below C;have an:=a0.trans (C.mono a0.size);have s0:=(C.cell (p:=⟨w.heap.size,0,O⟩) r4).trans r0;have s1:=(C.cell (p:=⟨w.heap.size,1,O⟩) r4).trans r1;clear C au aE aG aC a0 r0 r1 r4 y P q1 q2 q3 q4 aF aB ar al T;obtain⟨_,_,_,rfl⟩:=hq.slice;go_wp2_with fail
   refine(zcb _ _ _ (z/(B:Int)) (n/B) ⟨b,_,rfl,aP,aa⟩ hq aw aj).mono ?_;rintro e w9 ⟨s,rfl,l,a⟩;obtain⟨b3,Z,l5,k5,a6,l6,k6,rfl,ab,ad,ae,af,ah⟩:=l.parts;have M:=av.below a;have a1:=an.trans (a.mono an.size);obtain⟨i,j,k,F,I,J,L⟩:=M;clear a l av s0 s1;go_wp2;exact zH (v:=ag #[G b3,V Z l5 k5,V a6 l6 k6]) (by simp[results,results78,go_sem,i,j,k]) rfl ⟨_,rfl,jP ab ad ae af ah i j k,
    ((a1.setCell sp _).setCell sp _).setCell sp _⟩
end Go.Proofs.YtnhfdcfnojnofaaGreatDoor
