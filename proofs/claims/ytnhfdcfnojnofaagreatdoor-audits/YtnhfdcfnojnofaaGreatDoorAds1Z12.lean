import Derived.Test.YtnhfdcfnojnofaaGreatDoorAds1Z11
open Option renaming none->O,some->E
open Go.Value renaming slice->V,bool->G,pointer->pn,int->it,agg->ag
open Go.Obj renaming cells->cl
open Go renaming World->H
open Go.Proofs.Tryz renaming prog->pg
open Go.Proofs.Tryz
set_option linter.unusedSimpArgs false
set_option linter.unusedVariables false
set_option maxHeartbeats 4000000
set_option maxRecDepth 100000
namespace Go.Proofs.YtnhfdcfnojnofaaGreatDoor.T
open Go.RowKit
def zcj (w:H)(b c:Bool)(ao ao' bo bo':Option Addr)(l cap l' cap' m dap m' dap':Nat)(p r:Int)(q s:Nat)(wc:H):Prop:=
 qk wc w.heap.size (G b) (V ao l cap) (V ao' l' cap')/\qk wc (w.heap.size+1) (G c) (V bo m dap) (V bo' m' dap')/\qe wc (ag #[G b,V ao l cap,V ao' l' cap']) p q/\qe wc (ag #[G c,V bo m dap,V bo' m' dap']) r s/\Below w.heap.size w wc/\w.heap.size+1<wc.heap.size
theorem zcj.below {w:H}{b c:Bool}{d e f g:Option Addr}{l cap n i m j o k:Nat}{p r:Int}{q s:Nat}{u v:H}(h:zcj w b c d e f g l cap n i m j o k p r q s u)(a:Below u.heap.size u v):zcj w b c d e f g l cap n i m j o k p r q s v:=by
 obtain⟨e,f,g,i,d,j⟩:=h;exact⟨e.below a,f.below a,g.below a,i.below a,d.trans (a.mono d.size),zv j a.size⟩
theorem zcj.drew {w:H}{b c:Bool}{a d e f:Option Addr}{l cap k g m i n j:Nat}{p r:Int}{q s:Nat}{u:H}(h:zcj w b c a d e f l cap k g m i n j p r q s u):zcj w b c a d e f l cap k g m i n j p r q s u.drew:=by
 obtain⟨d,e,f,g,a,i⟩:=h;exact⟨d,e,f,g,⟨a.os,a.tape,a.output,a.size,a.block⟩,i⟩
theorem zcj.alloc {w:H}{b c:Bool}{a d e f:Option Addr}{l cap k g m i n j:Nat}{p r:Int}{q s:Nat}{u:H}(h:zcj w b c a d e f l cap k g m i n j p r q s u)(o:Obj):zcj w b c a d e f l cap k g m i n j p r q s (u.alloc o):=
 h.below ((zR _ _).alloc (zh _) o)
theorem qk.stored {w:H}{g:Nat}{m b:Bool}{c a d a2:Option Addr}{i e l k j f l2 k2:Nat}(h:qk w g (G m) (V c i e) (V d j f)):qk (((w.setCell ⟨g,0,O⟩ (G b)).setCell ⟨g,1,O⟩ (V a l k)).setCell ⟨g,2,O⟩ (V a2 l2 k2)) g (G b) (V a l k) (V a2 l2 k2):=by
 obtain⟨m,n,o,p,q,r,s⟩:=h;have t:(w.setCell ⟨g,0,O⟩ (G b)).cell? ⟨g,1,O⟩=E (V c i e):=by rw[zp _ _ _ _ sp];exact n
 have c:((w.setCell ⟨g,0,O⟩ (G b)).setCell ⟨g,1,O⟩ (V a l k)).cell? ⟨g,2,O⟩=E (V d j f):=by
  rw[zp _ _ _ _ sp,zp _ _ _ _ sp];exact o
 refine⟨?_,?_,zu _ _ _ c,by simpa using p,by simpa using q,by simpa using r,by simpa using s⟩;·rw[zp _ _ _ _ sp,zp _ _ _ _ sp];exact zu _ _ _ m
 ·rw[zp _ _ _ _ sp];exact zu _ _ _ t
theorem qe.setCell {w:H}{x:Value}{p:Int}{q:Nat}(h:qe w x p q){a:Addr}{y:Value}(c:w.cell? a=E y)(b:∀k,y≠it .i64 k)(z:Value):qe (w.setCell a z) x p q:=by
 obtain⟨d,v,u,e,f,g,i,j⟩:=h;exact⟨d,v,u,e,f.setCell c b z,g,i.setCell c b z,j⟩
theorem qe.stored {w:H}{x:Value}{p:Int}{q:Nat}(s:qe w x p q){g:Nat}{m b:Bool}{c a d a2:Option Addr}{i e l k j f l2 k2:Nat}(h:qk w g (G m) (V c i e) (V d j f)):qe (((w.setCell ⟨g,0,O⟩ (G b)).setCell ⟨g,1,O⟩ (V a l k)).setCell ⟨g,2,O⟩ (V a2 l2 k2)) x p q:=by
 obtain⟨m,n,o,_,_,_,_⟩:=h;have r:(w.setCell ⟨g,0,O⟩ (G b)).cell? ⟨g,1,O⟩=E (V c i e):=by rw[zp _ _ _ _ sp];exact n
 have c:((w.setCell ⟨g,0,O⟩ (G b)).setCell ⟨g,1,O⟩ (V a l k)).cell? ⟨g,2,O⟩=E (V d j f):=by
  rw[zp _ _ _ _ sp,zp _ _ _ _ sp];exact o
 exact((s.setCell m sp _).setCell r sp _).setCell c sp _
theorem Z9 {B:Nat}{w w':H}(b:Below B w w'){g:Nat}(a:B<=g)(x y z:Value):Below B w (((w'.setCell ⟨g,0,O⟩ x).setCell ⟨g,1,O⟩ y).setCell ⟨g,2,O⟩ z):=
 ((b.setCell (p:=⟨g,0,O⟩) a _).setCell (p:=⟨g,1,O⟩) a _).setCell (p:=⟨g,2,O⟩) a _
theorem zng (X:Int)(g:Nat)(b:0<g)(a:(g:Int) ∣ X):(X/(g:Int)).sign=X.sign:=by
 obtain⟨_,rfl⟩:=a;rw[Int.mul_ediv_cancel_left _ om,Int.sign_mul,jp (by omega:(0:Int)<g),Int.one_mul]
theorem JQ (K:Nat)(hK:K+K<100000000)(w:H)(x y:Value)(p r:Int)(q s:Nat)(h:qe w x p q)(k:qe w y r s)(hp:p.natAbs<10000^K)(hr:r.natAbs<10000^K)(hq:q<10000^K)(hs:s<10000^K):
 Calls pg 68 #[x,y] w fun e w'=>e= .returned (it .i64 (p*s+(-r)*q).sign)/\Below w.heap.size w w':=by
 obtain⟨f,c,u,l,d,v,m,rfl,hv,hb,hu,ap⟩:=h.parts;obtain⟨j,g,z,n,i,A,o,rfl,au,ai,ar,an⟩:=k.parts;have t:zcj w f j c d g i u l v m z n A o p r q s ((w.alloc (cl #[G f,V c u l,V d v m] 118)).alloc (cl #[G j,V g z n,V i A o] 118)):=
  ⟨(qk.new _ _ _ _ _).alloc _,qk.new1 _ _ _ _ _ _,(h.alloc _).alloc _,(k.alloc _).alloc _,J3 w _ _,sp⟩
 have a9:qk (((w.alloc (cl #[G f,V c u l,V d v m] 118)).alloc (cl #[G j,V g z n,V i A o] 118)).alloc (cl #[G false,V O 0 0,V O 0 0] 118)) (w.heap.size+1+1) (G false) (V O 0 0) (V O 0 0):=qk.new2 _ _ _ _ _ _ _;have a5:(-r).natAbs<10000^K:=by rw[QX];exact hr
 have aq:Hid (∀C:Nat,C=Nat.gcd (p*s+(-r)*q).natAbs (q*s)->((p*s+(-r)*q)/(C:Int)).sign=(p*s+(-r)*q).sign):=by
  intro C hg;refine zng _ C ?_ ?_;·rw[hg];exact Qn _ (jr ap an)
  ·rw[hg];exact Q3.2 (ZY _ _)
 have ak:Hid (((p*s+(-r)*q)/(Nat.gcd (p*s+(-r)*q).natAbs (q*s):Int)).natAbs<10000^(K+K+1)):=by
  rw[Hid];refine zr (Int.natAbs_ediv_le_natAbs _ _) (zr (zaT _ _) ?_);rw[Zx,Zx,Zc,Zc];exact zfI (zbe hp hs) (zbe a5 hq)
 clear hv hb hu au ai ar h k;go_enter func68,ntmps68
 go_wp2;go_cut [5] (fun sv wc=>∃(T:Nat) (S:Bool) (P:Option Addr) (lU Z:Nat) (Q:Option Addr) (lV kV:Nat),sv=pn (E ⟨T,0,O⟩)/\qk wc T (G S) (V P lU Z) (V Q lV kV)/\qe wc (ag #[G S,V P lU Z,V Q lV kV]) ((p*s+(-r)*q)/(Nat.gcd (p*s+(-r)*q).natAbs (q*s):Int)) ((q*s)/Nat.gcd (p*s+(-r)*q).natAbs (q*s))/\Below w.heap.size w wc)
 case first=>
  go_region_held (fun w'=>w'.cell? ⟨w.heap.size,0,O⟩=E (G f)/\w'.cell? ⟨w.heap.size,1,O⟩=E (V c u l)/\w'.cell? ⟨w.heap.size,2,O⟩=E (V d v m)/\w'.cell? ⟨w.heap.size+1,0,O⟩=E (G j)/\w'.cell? ⟨w.heap.size+1,1,O⟩=E (V g z n)/\w'.cell? ⟨w.heap.size+1,2,O⟩=E (V i A o)) (first|(refine⟨?_,?_,?_,?_,?_,?_⟩<;>(rw[far,far,far]<;>first|assumption|omega))|go_keep) (first|(go_at_call 103;refine(zeQ K hK _ _ _ p (-r) q s (by first|exact b.2.2.1|exact(b.alloc _).2.2.1) (by first|exact a1|exact a1.alloc _) hp a5 hq hs).mono ?_;rintro e L ⟨_,rfl,D,J⟩;obtain⟨R,M,l2,X,N,l3,Y,rfl,_,_,_,_⟩:=D.parts;have W:zcj w f j c d g i u l v m z n A o p r q s L:=(by first|exact b.below J|exact(b.alloc _).below J);have ae:=W.1;obtain⟨_,_,_,_,_,_,_⟩:=ae;have ah:=W.2.1;obtain⟨_,_,_,_,_,_,_⟩:=ah;have F:=W.2.2.2.2.1;(first|(have a:qk L (w.heap.size+1+1) (G false) (V O 0 0) (V O 0 0):=(by exact a0.below J);have U:=a;obtain⟨n0,a6,n2,a7,a8,n5,n6⟩:=U)|(have a:qk L B.heap.size (G false) (V O 0 0) (V O 0 0):=(by exact(qk.new B _ _ _ _).below J);have U:=a;obtain⟨n0,a6,n2,a7,a8,n5,n6⟩:=U)|skip))|(go_at_call 104;refine(zdU _ _ r s (by first|exact t.drew.2.2.2.1|exact(t.alloc _).drew.2.2.2.1|exact(t.drew.alloc _).2.2.2.1) K hr).mono ?_;rintro e B ⟨_,rfl,a1,I⟩;have b:zcj w f j c d g i u l v m z n A o p r q s B:=(by first|exact t.drew.below I|exact(t.alloc _).drew.below I|exact(t.drew.alloc _).below I);have ad:=b.1;obtain⟨_,_,_,_,_,_,_⟩:=ad;have af:=b.2.1;obtain⟨_,_,_,_,_,_,_⟩:=af;have ab:=b.2.2.2.2.1;(first|(have a0:qk B (w.heap.size+1+1) (G false) (V O 0 0) (V O 0 0):=(by exact a9.drew.below I);have aa:=a0;obtain⟨_,_,_,_,_,_,_⟩:=aa)|skip)))
  all_goals go_wp2_with fail
  all_goals go_meet
  ·exact⟨L.heap.size,R,M,l2,X,N,l3,Y,rfl,qk.new _ _ _ _ _,D.alloc _,F.alloc F.size _⟩
  ·exact⟨B.heap.size,R,M,l2,X,N,l3,Y,rfl,qk.stored a,D.stored a,Z9 F ab.size _ _ _⟩
  ·exact⟨w.heap.size+1+1,R,M,l2,X,N,l3,Y,rfl,qk.stored a,D.stored a,Z9 F om _ _ _⟩
 case rest=>
  obtain⟨T,S,P,lU,Z,Q,lV,kV,rfl,al,hU,a4⟩:=hcut;obtain⟨n0,a6,n2,a7,a8,n5,n6⟩:=al;go_wp2_with fail
  refine(sign_any _ _ _ _ hU (K+K+1) ak.out).mono ?_;rintro e w6 ⟨rfl,aj⟩;go_wp2;go_ret;exact⟨QW (aq.out _ rfl),a4.trans (aj.mono a4.size)⟩
theorem NV.stored {w:H}{x:Value}{n:Nat}(r:NV w x n){g:Nat}{m b:Bool}{c a d a2:Option Addr}{i e l k j f l2 k2:Nat}(h:qk w g (G m) (V c i e) (V d j f)):NV (((w.setCell ⟨g,0,O⟩ (G b)).setCell ⟨g,1,O⟩ (V a l k)).setCell ⟨g,2,O⟩ (V a2 l2 k2)) x n:=by
 obtain⟨m,o,p,_,_,_,_⟩:=h;have q:(w.setCell ⟨g,0,O⟩ (G b)).cell? ⟨g,1,O⟩=E (V c i e):=by rw[zp _ _ _ _ sp];exact o
 have c:((w.setCell ⟨g,0,O⟩ (G b)).setCell ⟨g,1,O⟩ (V a l k)).cell? ⟨g,2,O⟩=E (V d j f):=by
  rw[zp _ _ _ _ sp,zp _ _ _ _ sp];exact p
 exact((r.setCell m sp _).setCell q sp _).setCell c sp _
theorem zcQ {w:H}{g:Nat}{i b:Bool}{e f d:Option Addr}{n j o k c a:Nat}{p:Int}(m:NV w (V d c a) p.natAbs)(l:Hid (b=decide (p<0)))(h:qk w g (G i) (V e n j) (V f o k)):
 qe ((((w.setCell ⟨g,0,O⟩ (G b)).setCell ⟨g,1,O⟩ (V d c a)).setCell ⟨g,2,O⟩ (V (E ⟨w.heap.size,0,O⟩) 1 1)).alloc (cl #[it .i64 1] 3)) (ag #[G b,V d c a,V (E ⟨w.heap.size,0,O⟩) 1 1]) p 1:=by
 refine⟨b,_,_,rfl,(m.stored h).alloc _,l,?_,om⟩;have e:=zg0 (((w.setCell ⟨g,0,O⟩ (G b)).setCell ⟨g,1,O⟩ (V d c a)).setCell ⟨g,2,O⟩ (V (E ⟨w.heap.size,0,O⟩) 1 1)) 1 om om;simpa using e
theorem zi5 (l D:Nat)(h:l=0↔D=0):decide (0<l)=decide (-(D:Int)<0):=
 Q8.2 ⟨fun a=>by have:=fun e=>(Jv.1 a) (h.2 e);omega,fun a=>Zm fun e=>by have:=h.1 e;omega⟩
theorem zi6 (p:Int)(q:Nat)(a:¬p<0):((p.natAbs/q:Nat):Int)=p/(q:Int):=by
 rw[Int.natCast_ediv,show(p.natAbs:Int)=p by omega]
theorem floor_neg0 (p:Int)(q:Nat)(c:0<q)(a:p<0)(b:p.natAbs%q=0):p/(q:Int)=-((p.natAbs/q:Nat):Int):=by
 have a:=Int.ofNat_dvd.2 (Nat.dvd_of_mod_eq_zero b);have e:p=-(p.natAbs:Int):=om;rw[Int.natCast_ediv];conv=>lhs;rw[e]
 exact Int.neg_ediv_of_dvd a
theorem floor_neg1 (p:Int)(q:Nat)(a:0<q)(b:p<0)(c:p.natAbs%q≠0):p/(q:Int)=-((p.natAbs/q+1:Nat):Int):=by
 have b:=zaG p.natAbs q;have b:=Qx p.natAbs a;have e:p=(q:Int)*(-((p.natAbs/q+1:Nat):Int))+((q-p.natAbs%q:Nat):Int):=by
  have a:(q:Int)*(-((p.natAbs/q+1:Nat):Int))=-((q*(p.natAbs/q)+q:Nat):Int):=by
   rw[Int.mul_neg,<-JW,qI,Qe]
  rw[a];omega
 conv=>lhs;rw[e]
 rw[Int.mul_add_ediv_left _ _ om,Int.ediv_eq_zero_of_lt om om,Int.add_zero]
theorem floor_any (K:Nat)(b:K<=10000000)(w:H)(x:Value)(p:Int)(q:Nat)(h:qe w x p q)(L:p.natAbs<10000^K)(hq:q<10000^K):
 Calls pg 106 #[x] w fun e w'=>∃t,e= .returned t/\qe w' t (p/(q:Int)) 1/\Below w.heap.size w w':=by
 obtain⟨c,o,F,z,r,I,A,rfl,y,b,u,d⟩:=h.parts;have n:qk ((w.alloc (cl #[G c,V o F z,V r I A] 118)).alloc (cl #[G false,V O 0 0,V O 0 0] 118)) w.heap.size (G c) (V o F z) (V r I A):=(qk.new _ _ _ _ _).alloc _;have s:qk ((w.alloc (cl #[G c,V o F z,V r I A] 118)).alloc (cl #[G false,V O 0 0,V O 0 0] 118)) (w.heap.size+1) (G false) (V O 0 0) (V O 0 0):=qk.new1 _ _ _ _ _ _;have m:=J3 w (cl #[G c,V o F z,V r I A] 118) (cl #[G false,V O 0 0,V O 0 0] 118);have Q:=zi b.out;have M:=zi d;clear b;go_enter func106,ntmps106
 go_wp2_with fail
 refine(zdq _ _ _ p.natAbs q K ((y.alloc _).alloc _) ((u.alloc _).alloc _) L hq om om).mono ?_;rintro e d ⟨_,_,rfl,B,N,f⟩;obtain⟨l,b,j,rfl⟩:=B.slice;obtain⟨_,l2,_,rfl⟩:=N.slice;have C:=n.below f;have g:=s.below f;have i:=m.trans (f.mono m.size);have J:=zcK B (zr (Qh _ _) L);have D:=zcK N (zr (Nat.mod_le _ _) L);clear f m n s y u h;obtain⟨R,S,T,U,W,X,Y⟩:=C;have P:=g;obtain⟨f0,f1,f2,f3,f4,f5,f6⟩:=P;cases c with
 |false=>
  have f:¬p<0:=by have:=Q.out;simp at this;omega
  have c:=zi (zi6 p q f);have m:Hid (false=decide (p/(q:Int)<0)):=by
   rw[Hid,<-c.out];exact(ZB (Int.not_lt.2 (Int.natCast_nonneg _))).symm
  have n:Hid (NV d (V l b j) (p/(q:Int)).natAbs):=by
   rw[Hid,<-c.out,Zc];exact B
  clear J D f;have C:=(qk.stored (b:=false) (a:=l) (l:=b) (k:=j) (a2:=E ⟨d.heap.size,0,O⟩) (l2:=1) (k2:=1) g).alloc (cl #[it .i64 1] 3);obtain⟨s,u,y,Z,c4,c5,c6⟩:=C;go_wp2;exact zH (v:=ag #[G false,V l b j,V (E ⟨d.heap.size,0,O⟩) 1 1]) (by simp[results,results106,go_sem,s,u,y]) rfl ⟨_,rfl,zcQ n.out m g,
   (Z9 i om _ _ _).alloc (by have:=i.size;simp;omega) _⟩
 |true=>
  have f:p<0:=by have:=Q.out;simpa using this
  by_cases Q:l2=0
  ·have c:=zi (floor_neg0 p q M.out f (D.2.1 Q));have m:Hid (decide (0<b)=decide (p/(q:Int)<0)):=by
    rw[Hid,c.out];exact zi5 _ _ J.2
   have n:Hid (NV d (V l b j) (p/(q:Int)).natAbs):=by
    rw[Hid,c.out,QX,Zc];exact B
   subst Q;clear J D f;have C:=(qk.stored (b:=(decide (0<b))) (a:=l) (l:=b) (k:=j) (a2:=E ⟨d.heap.size,0,O⟩) (l2:=1) (k2:=1) g).alloc (cl #[it .i64 1] 3);obtain⟨s,u,y,Z,c4,c5,c6⟩:=C;go_wp2;exact zH (v:=ag #[G (decide (0<b)),V l b j,V (E ⟨d.heap.size,0,O⟩) 1 1]) (by simp[results,results106,go_sem,s,u,y]) rfl ⟨_,rfl,zcQ n.out m g,
    (Z9 i om _ _ _).alloc (by have:=i.size;simp;omega) _⟩
  ·have c:=zi (floor_neg1 p q M.out f (fun e=>Q (D.2.2 e)));have b:(0:Int)<(l2:Int):=om;have a1:p.natAbs/q<10000^K:=zr (Qh _ _) L;have a0:1<10000^K:=zr M.out hq;have M:=zg0 d 1 om om;have L:=B.alloc (cl #[it .i64 1] 3);have Q:=g.alloc (cl #[it .i64 1] 3);have j:=i.alloc i.size (cl #[it .i64 1] 3);have B:=(show qk d w.heap.size (G true) (V o F z) (V r I A)from⟨R,S,T,U,W,X,Y⟩).alloc (cl #[it .i64 1] 3);clear J D f N;go_wp2_with fail
   refine(plus_any _ _ _ (p.natAbs/q) 1 K L M a1 a0 om).mono ?_;rintro e o ⟨_,rfl,f,d⟩;obtain⟨l,b,i,rfl⟩:=f.slice;have g:=Q.below d;have A:=B.below d;have r:=j.trans (d.mono j.size);have z:=zcK f (K:=K+1) (by rw[ZK];omega);have m:Hid (decide (0<b)=decide (p/(q:Int)<0)):=by
    rw[Hid,c.out];exact zi5 _ _ z.2
   have n:Hid (NV o (V l b i) (p/(q:Int)).natAbs):=by
    rw[Hid,c.out,QX,Zc];exact f
   clear d Q B j L M z R S T U W X Y f0 f1 f2 f3 f4 f5 f6 a1 a0;obtain⟨R,S,T,U,W,X,Y⟩:=A;have P:=g;obtain⟨f0,f1,f2,f3,f4,f5,f6⟩:=P;have C:=(qk.stored (b:=(decide (0<b))) (a:=l) (l:=b) (k:=i) (a2:=E ⟨o.heap.size,0,O⟩) (l2:=1) (k2:=1) g).alloc (cl #[it .i64 1] 3);obtain⟨s,u,y,Z,c4,c5,c6⟩:=C;go_wp2;exact zH (v:=ag #[G (decide (0<b)),V l b i,V (E ⟨o.heap.size,0,O⟩) 1 1]) (by simp[results,results106,go_sem,s,u,y]) rfl ⟨_,rfl,zcQ n.out m g,
    (Z9 r om _ _ _).alloc (by have:=r.size;simp;omega) _⟩
end Go.Proofs.YtnhfdcfnojnofaaGreatDoor.T
