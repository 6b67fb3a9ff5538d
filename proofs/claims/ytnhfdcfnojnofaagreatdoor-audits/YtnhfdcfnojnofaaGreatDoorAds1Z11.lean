import Derived.Test.YtnhfdcfnojnofaaGreatDoorAds1Z8
open Option renaming none->O,some->E
open Go.Value renaming slice->V,bool->G,agg->ag
open Go.Obj renaming cells->cl
open Go renaming World->H
open Go.Proofs.Tryz renaming prog->pg
open Go.Proofs.Tryz
set_option linter.unusedSimpArgs false
set_option linter.unusedVariables false
set_option maxHeartbeats 4000000
set_option maxRecDepth 100000
namespace Go.Proofs.YtnhfdcfnojnofaaGreatDoor.T
open Go.RowKit
theorem ze1 (p:Int)(s:Nat)(hs:0<s):(p*(s:Int)).natAbs=p.natAbs*s/\(p<0↔p*(s:Int)<0):=by
 refine⟨by rw[Zx,Zc],?_,?_⟩;·intro h;exact Int.mul_neg_of_neg_of_pos h om
 ·intro h;by_cases c:p<0
  ·exact c
  ·have:=Int.mul_nonneg (a:=p) (b:=(s:Int)) om om;omega
theorem zod (p r:Int)(q s:Nat)(e:0<q)(hs:0<s)(h:decide (p<0)=decide (r<0)):sg (decide (p<0)) (p.natAbs*s+r.natAbs*q)=p*s+r*q:=by
 obtain⟨a,b⟩:=ze1 p s hs;obtain⟨d,c⟩:=ze1 r q e;rw[<-a,<-d];have d:=Q8.1 h;by_cases a:p<0
 ·have:=b.1 a;have:=c.1 (d.1 a);simp only[a,zbp,sg,jo];omega
 ·have:=fun e=>a (b.2 e)
  have:=fun e=>a (d.2 (c.2 e))
  simp only[a,zcO,sg,Q4,Jg];omega
theorem zi4 (p r:Int)(q s:Nat)(f:0<q)(hs:0<s)(h:decide (p<0)≠decide (r<0))(e:r.natAbs*q<=p.natAbs*s):sg (decide (p<0)) (p.natAbs*s-r.natAbs*q)=p*s+r*q:=by
 obtain⟨a,c⟩:=ze1 p s hs;obtain⟨b,d⟩:=ze1 r q f;rw[<-a,<-b]at e⊢;by_cases a:p<0
 ·have b:¬r<0:=fun e=>h (by simp[a,e])
  have:=c.1 a;have:=fun e=>b (d.2 e)
  simp only[a,zbp,sg,jo];omega
 ·have b:r<0:=by
   by_cases e:r<0
   ·exact e
   ·exact absurd (by simp[a,e]) h
  have:=fun e=>a (c.2 e)
  have:=d.1 b;simp only[a,zcO,sg,Q4,Jg];omega
theorem zkq {a b:Nat}:0<=QL a b↔b<=a:=by
 unfold QL;split
 ·omega
 ·split<;>omega
theorem zeE {n K:Nat}(h:n<10000^(K+K)):n<10000^(K+K+1):=Qm h (Nat.pow_lt_pow_right om om)
theorem zfI {m n K:Nat}(h:m<10000^(K+K))(a:n<10000^(K+K)):m+n<10000^(K+K+1):=by
 rw[ZK];omega
theorem zeQ (K:Nat)(a:K+K<100000000)(w:H)(x y:Value)(p r:Int)(q s:Nat)(h:qe w x p q)(k:qe w y r s)(I:p.natAbs<10000^K)(S:r.natAbs<10000^K)(D:q<10000^K)(hs:s<10000^K):
 Calls pg 103 #[x,y] w fun e w'=>∃t,e= .returned t/\qe w' t ((p*s+r*q)/(Nat.gcd (p*s+r*q).natAbs (q*s):Int)) ((q*s)/Nat.gcd (p*s+r*q).natAbs (q*s))/\Below w.heap.size w w':=by
 obtain⟨b,f,u,l,g,z,m,rfl,J,a,U,ad⟩:=h.parts;obtain⟨c,i,A,n,j,B,o,rfl,X,F,C,ab⟩:=k.parts;have L:qk (((w.alloc (cl #[G b,V f u l,V g z m] 118)).alloc (cl #[G c,V i A n,V j B o] 118)).alloc (cl #[G false,V O 0 0,V O 0 0] 118)) w.heap.size (G b) (V f u l) (V g z m):=((qk.new _ _ _ _ _).alloc _).alloc _;have N:qk (((w.alloc (cl #[G b,V f u l,V g z m] 118)).alloc (cl #[G c,V i A n,V j B o] 118)).alloc (cl #[G false,V O 0 0,V O 0 0] 118)) (w.heap.size+1) (G c) (V i A n) (V j B o):=(qk.new1 _ _ _ _ _ _).alloc _;have Q:qk (((w.alloc (cl #[G b,V f u l,V g z m] 118)).alloc (cl #[G c,V i A n,V j B o] 118)).alloc (cl #[G false,V O 0 0,V O 0 0] 118)) (w.heap.size+1+1) (G false) (V O 0 0) (V O 0 0):=qk.new2 _ _ _ _ _ _ _;have d:=J4 w (cl #[G b,V f u l,V g z m] 118) (cl #[G c,V i A n,V j B o] 118) (cl #[G false,V O 0 0,V O 0 0] 118);have hX:=zbe I hs;have hY:=zbe S D;have M:=zbe D hs;have ai:=zeE M;have ah:=Jv.1 (jr ad ab);have HB:=zi a.out;have aa:=zi F.out;clear a F;go_enter func103,ntmps103
 go_wp2_with fail
 refine(zb9 _ _ _ p.natAbs s K (((J.alloc _).alloc _).alloc _) (((C.alloc _).alloc _).alloc _) I hs om).mono ?_;rintro e a ⟨t1,rfl,F,a⟩;obtain⟨_,_,_,rfl⟩:=F.slice;have I:=L.below a;have M:=N.below a;have T:=Q.below a;have P:=d.trans (a.mono d.size);have Z:=(((J.alloc (cl #[G b,V f u l,V g z m] 118)).alloc (cl #[G c,V i A n,V j B o] 118)).alloc (cl #[G false,V O 0 0,V O 0 0] 118)).below a;have Y:=(((X.alloc (cl #[G b,V f u l,V g z m] 118)).alloc (cl #[G c,V i A n,V j B o] 118)).alloc (cl #[G false,V O 0 0,V O 0 0] 118)).below a;have R:=(((U.alloc (cl #[G b,V f u l,V g z m] 118)).alloc (cl #[G c,V i A n,V j B o] 118)).alloc (cl #[G false,V O 0 0,V O 0 0] 118)).below a;have W:=(((C.alloc (cl #[G b,V f u l,V g z m] 118)).alloc (cl #[G c,V i A n,V j B o] 118)).alloc (cl #[G false,V O 0 0,V O 0 0] 118)).below a;clear a d L N Q J X U C h k;have d:=I;have C:=M;obtain⟨i0,i1,i2,i3,i4,i5,i6⟩:=d;obtain⟨j0,j1,j2,j3,j4,j5,j6⟩:=C;go_wp2_with fail
 refine(zb9 _ _ _ r.natAbs q K Y R S D om).mono ?_;rintro e a ⟨t2,rfl,J,a⟩;obtain⟨_,_,_,rfl⟩:=J.slice;have L:=I.below a;have N:=M.below a;have U:=T.below a;have Q:=P.trans (a.mono P.size);have S:=F.below a;have X:=R.below a;have a0:=W.below a;clear a P I M T F R W Z Y i0 i1 i2 i3 i4 i5 i6 j0 j1 j2 j3 j4 j5 j6;have d:=L;have C:=N;obtain⟨i0,i1,i2,i3,i4,i5,i6⟩:=d;obtain⟨j0,j1,j2,j3,j4,j5,j6⟩:=C;go_wp2_with fail
 refine(zb9 _ _ _ q s K X a0 D hs om).mono ?_;rintro e w3 ⟨t3,rfl,Y,a⟩;obtain⟨_,_,_,rfl⟩:=Y.slice;have D:=L.below a;have F:=N.below a;have Z:=U.below a;have I:=Q.trans (a.mono Q.size);have ae:=S.below a;have af:=J.below a;clear a Q L N U S J X a0 i0 i1 i2 i3 i4 i5 i6 j0 j1 j2 j3 j4 j5 j6;have d:=D;have C:=F;obtain⟨i0,i1,i2,i3,i4,i5,i6⟩:=d;obtain⟨j0,j1,j2,j3,j4,j5,j6⟩:=C;by_cases a0:b=c
 ·have HZ:Hid (sg b (p.natAbs*s+r.natAbs*q)=p*s+r*q):=by
   rw[Hid,HB.out];exact zod p r q s ad ab (by rw[<-HB.out,<-aa.out,a0])
  have a8:=zfI hX hY;have a:(b == c)=true:=by simpa using a0
  clear a0;go_wp2_with fail
  go_region_held (fun w'=>w'.cell? ⟨w.heap.size,0,O⟩=E (G b)/\w'.cell? ⟨w.heap.size,1,O⟩=E (V f u l)/\w'.cell? ⟨w.heap.size,2,O⟩=E (V g z m)/\w'.cell? ⟨w.heap.size+1,0,O⟩=E (G c)/\w'.cell? ⟨w.heap.size+1,1,O⟩=E (V i A n)/\w'.cell? ⟨w.heap.size+1,2,O⟩=E (V j B o)) (first|(refine⟨?_,?_,?_,?_,?_,?_⟩<;>(rw[far,far,far]<;>first|assumption|omega))|go_keep) (first|(go_at_call 183;refine(lowest_any _ _ _ _ (p.natAbs*s+r.natAbs*q) (q*s) (K+K+1) a1 ((Y.drew).below a) a8 ai ah om).mono ?_;rintro e wF ⟨tF,rfl,a4,d⟩;obtain⟨b2,a2,l2,k2,a3,l3,k3,rfl,S,T,U,W⟩:=a4.parts;have a5:=(D.drew.below a).below d;obtain⟨x0,x1,x2,x3,x4,x5,x6⟩:=a5;have a6:=(F.drew.below a).below d;obtain⟨y0,y1,y2,y3,y4,y5,y6⟩:=a6;have a7:=(Z.drew.below a).below d;obtain⟨L,M,N,f0,f1,f2,g0⟩:=a7)|(go_at_call 185;refine(plus_any _ _ _ (p.natAbs*s) (r.natAbs*q) (K+K) (ae.drew) (af.drew) hX hY om).mono ?_;rintro e wE ⟨tE,rfl,a1,a⟩;have P:=D.drew.below a;obtain⟨s0,s1,s2,s3,s4,s5,s6⟩:=P;have Q:=F.drew.below a;obtain⟨t0,t1,t2,t3,t4,t5,t6⟩:=Q))
  have R:=I.trans ((zcM a).mono I.size);have a9:=R.trans (d.mono R.size);have J:=HZ.out;have C:=Zt Int.natAbs J;rw[zbn]at C;rw[J,C]at S T;rw[C]at U W;go_wp2;exact zH (v:=ag #[G b2,V a2 l2 k2,V a3 l3 k3]) (by simp[results,results103,go_sem,L,M,N]) rfl ⟨_,rfl,zaH S T U W L M N,
   ((a9.setCell so _).setCell so _).setCell so _⟩
 ·have X:(b == c)=false:=by simpa using a0
  go_wp2_with fail
  refine(compare_any _ _ _ (p.natAbs*s) (r.natAbs*q) (K+K) ae af hX hY om).mono ?_;rintro e X ⟨rfl,X,rfl⟩;have P:=D.drewN X;have Q:=F.drewN X;have aj:=Z.drewN X;have an:=ae.drewN X;have ap:=af.drewN X;have al:=Y.drewN X;have ak:=zkm I X;clear D F Z ae af Y I i0 i1 i2 i3 i4 i5 i6 j0 j1 j2 j3 j4 j5 j6;generalize w3.drewN X=X at *;have D:=P;have F:=Q;have Z:=aj;have Y:=al;have I:=ak;clear aj al ak;obtain⟨i0,i1,i2,i3,i4,i5,i6⟩:=P;obtain⟨j0,j1,j2,j3,j4,j5,j6⟩:=Q;by_cases X:r.natAbs*q<=p.natAbs*s
  ·have hz:=zkq.2 X;have HZ:Hid (sg b (p.natAbs*s-r.natAbs*q)=p*s+r*q):=by
    rw[Hid,HB.out];exact zi4 p r q s ad ab (by rw[<-HB.out,<-aa.out];exact a0) X
   have a8:p.natAbs*s-r.natAbs*q<10000^(K+K+1):=zr (Nat.sub_le _ _) (zeE hX);generalize QL (p.natAbs*s) (r.natAbs*q)=ae at *;go_wp2_with fail
   go_region_held (fun w'=>w'.cell? ⟨w.heap.size,0,O⟩=E (G b)/\w'.cell? ⟨w.heap.size,1,O⟩=E (V f u l)/\w'.cell? ⟨w.heap.size,2,O⟩=E (V g z m)/\w'.cell? ⟨w.heap.size+1,0,O⟩=E (G c)/\w'.cell? ⟨w.heap.size+1,1,O⟩=E (V i A n)/\w'.cell? ⟨w.heap.size+1,2,O⟩=E (V j B o)) (first|(refine⟨?_,?_,?_,?_,?_,?_⟩<;>(rw[far,far,far]<;>first|assumption|omega))|go_keep) (first|(go_at_call 183;refine(lowest_any _ _ _ _ (p.natAbs*s-r.natAbs*q) (q*s) (K+K+1) a1 ((Y.drew).below a) a8 ai ah om).mono ?_;rintro e wF ⟨tF,rfl,a4,d⟩;obtain⟨b2,a2,l2,k2,a3,l3,k3,rfl,S,T,U,W⟩:=a4.parts;have a5:=(D.drew.below a).below d;obtain⟨x0,x1,x2,x3,x4,x5,x6⟩:=a5;have a6:=(F.drew.below a).below d;obtain⟨y0,y1,y2,y3,y4,y5,y6⟩:=a6;have a7:=(Z.drew.below a).below d;obtain⟨L,M,N,f0,f1,f2,g0⟩:=a7)|(go_at_call 187;refine(zgx _ _ _ (p.natAbs*s) (r.natAbs*q) (K+K) (an.drew) (ap.drew) hX X om).mono ?_;rintro e wE ⟨tE,rfl,a1,a⟩;have P:=D.drew.below a;obtain⟨s0,s1,s2,s3,s4,s5,s6⟩:=P;have Q:=F.drew.below a;obtain⟨t0,t1,t2,t3,t4,t5,t6⟩:=Q))
   have R:=I.trans ((zcM a).mono I.size);have a9:=R.trans (d.mono R.size);have J:=HZ.out;have C:=Zt Int.natAbs J;rw[zbn]at C;rw[J,C]at S T;rw[C]at U W;go_wp2;exact zH (v:=ag #[G b2,V a2 l2 k2,V a3 l3 k3]) (by simp[results,results103,go_sem,L,M,N]) rfl ⟨_,rfl,zaH S T U W L M N,
    ((a9.setCell so _).setCell so _).setCell so _⟩
  ·have hz:QL (p.natAbs*s) (r.natAbs*q)<0:=by
    rcases Int.lt_or_le (QL (p.natAbs*s) (r.natAbs*q)) 0 with h|h
    ·exact h
    ·exact absurd (zkq.1 h) X
   have X:p.natAbs*s<=r.natAbs*q:=om;have HZ:Hid (sg c (r.natAbs*q-p.natAbs*s)=p*s+r*q):=by
    rw[Hid,aa.out,Int.add_comm];exact zi4 r p s q ab ad (by rw[<-HB.out,<-aa.out];exact fun e=>a0 e.symm) X
   have a8:r.natAbs*q-p.natAbs*s<10000^(K+K+1):=zr (Nat.sub_le _ _) (zeE hY);generalize QL (p.natAbs*s) (r.natAbs*q)=ae at *;go_wp2_with fail
   go_region_held (fun w'=>w'.cell? ⟨w.heap.size,0,O⟩=E (G b)/\w'.cell? ⟨w.heap.size,1,O⟩=E (V f u l)/\w'.cell? ⟨w.heap.size,2,O⟩=E (V g z m)/\w'.cell? ⟨w.heap.size+1,0,O⟩=E (G c)/\w'.cell? ⟨w.heap.size+1,1,O⟩=E (V i A n)/\w'.cell? ⟨w.heap.size+1,2,O⟩=E (V j B o)) (first|(refine⟨?_,?_,?_,?_,?_,?_⟩<;>(rw[far,far,far]<;>first|assumption|omega))|go_keep) (first|(go_at_call 183;refine(lowest_any _ _ _ _ (r.natAbs*q-p.natAbs*s) (q*s) (K+K+1) a1 ((Y.drew).below a) a8 ai ah om).mono ?_;rintro e wF ⟨tF,rfl,a4,d⟩;obtain⟨b2,a2,l2,k2,a3,l3,k3,rfl,S,T,U,W⟩:=a4.parts;have a5:=(D.drew.below a).below d;obtain⟨x0,x1,x2,x3,x4,x5,x6⟩:=a5;have a6:=(F.drew.below a).below d;obtain⟨y0,y1,y2,y3,y4,y5,y6⟩:=a6;have a7:=(Z.drew.below a).below d;obtain⟨L,M,N,f0,f1,f2,g0⟩:=a7)|(go_at_call 187;refine(zgx _ _ _ (r.natAbs*q) (p.natAbs*s) (K+K) (ap.drew) (an.drew) hY X om).mono ?_;rintro e wE ⟨tE,rfl,a1,a⟩;have P:=D.drew.below a;obtain⟨s0,s1,s2,s3,s4,s5,s6⟩:=P;have Q:=F.drew.below a;obtain⟨t0,t1,t2,t3,t4,t5,t6⟩:=Q))
   have R:=I.trans ((zcM a).mono I.size);have a9:=R.trans (d.mono R.size);have J:=HZ.out;have C:=Zt Int.natAbs J;rw[zbn]at C;rw[J,C]at S T;rw[C]at U W;go_wp2;exact zH (v:=ag #[G b2,V a2 l2 k2,V a3 l3 k3]) (by simp[results,results103,go_sem,L,M,N]) rfl ⟨_,rfl,zaH S T U W L M N,
    ((a9.setCell so _).setCell so _).setCell so _⟩
end Go.Proofs.YtnhfdcfnojnofaaGreatDoor.T
