import Derived.Test.YtnhfdcfnojnofaaGreatDoorAds1Z4
open Option renaming none->O,some->E
open Go.Value renaming slice->V,bool->G,agg->ag
open Go.Obj renaming cells->cl
open Go renaming World->H
open Go.Proofs.Tryz renaming prog->pg
open Go.Proofs.Tryz
set_option linter.unusedSimpArgs false
set_option linter.unusedVariables false
set_option maxHeartbeats 1000000
set_option maxRecDepth 100000
namespace Go.Proofs.YtnhfdcfnojnofaaGreatDoor
open Go.RowKit
theorem qX.new2 (w:H)(A B:Obj)(x y:Value)(t:TypeId):qX (((w.alloc A).alloc B).alloc (cl #[x,y] t)) (w.heap.size+1+1) x y:=by
 have:=qX.new ((w.alloc A).alloc B) x y t;simpa using this
theorem zcM {B:Nat}{w w':H}(h:Below B w.drew w'):Below B w w':=⟨h.os,h.tape,h.output,h.size,h.block⟩
theorem zgY (w:H)(x y:Value)(p r:Int)(q s J K:Nat)(T:J+K<=1073741823)(h:qP w x p q)(k:qP w y r s)(U:p.natAbs<4294967296^J)(hs:s<4294967296^K):
 Calls pg 202 #[x,y] w fun e w'=>∃t,e= .returned t/\zY w' t (p*(s:Int))/\Below w.heap.size w w':=by
 have S:=h;have M:=k;obtain⟨b,c,l,d,a,z,n,rfl,L,N,X,_,_⟩:=h.parts;obtain⟨m,j,A,o,f,i,g,rfl,Y,_,I,W,_⟩:=k.parts;have B:qk (((w.alloc (cl #[G b,V c l d,V a z n] 103)).alloc (cl #[G m,V j A o,V f i g] 103)).alloc (cl #[G false,V O 0 0] 101)) w.heap.size (G b) (V c l d) (V a z n):=((qk.new _ _ _ _ _).alloc _).alloc _;have D:qk (((w.alloc (cl #[G b,V c l d,V a z n] 103)).alloc (cl #[G m,V j A o,V f i g] 103)).alloc (cl #[G false,V O 0 0] 101)) (w.heap.size+1) (G m) (V j A o) (V f i g):=(qk.new1 _ _ _ _ _ _).alloc _;have C:qX (((w.alloc (cl #[G b,V c l d,V a z n] 103)).alloc (cl #[G m,V j A o,V f i g] 103)).alloc (cl #[G false,V O 0 0] 101)) (w.heap.size+1+1) (G false) (V O 0 0):=qX.new2 _ _ _ _ _ _;have u:=J4 w (cl #[G b,V c l d,V a z n] 103) (cl #[G m,V j A o,V f i g] 103) (cl #[G false,V O 0 0] 101);by_cases A:s=1
 ·subst A;rw[JX,Int.mul_one];go_enter func202,ntmps202
  go_wp2_with fail
  refine(zdo _ _ r (((M.alloc _).alloc _).alloc _)).mono ?_;rintro e z ⟨rfl,a⟩;have Z:=(((L.alloc _).alloc _).alloc _).below a;have n:=B.below a;have F:=C.below a;obtain⟨p0,p1,p2,p3,p4,p5,p6⟩:=n;obtain⟨j,m,P,Q,R⟩:=F;have o:=u.trans (a.mono u.size);clear a B D C;go_wp2;exact zH (v:=ag #[G b,V c l d]) (by simp[results,results202,go_sem,j,m]) rfl ⟨_,rfl,Qv Z N j m,
   (o.setCell so _).setCell so _⟩
 ·go_enter func202,ntmps202
  go_wp2_with fail
  refine(zdQ _ _ r s (((M.alloc _).alloc _).alloc _) A).mono ?_;rintro e z ⟨rfl,a⟩;rw[(zbZ W A).1]at I;have W:zY z (ag #[G b,V c l d]) p:=⟨b,_,rfl,(((L.alloc _).alloc _).alloc _).below a,N⟩;have N:=(((I.alloc _).alloc _).alloc _).below a;have n:=B.below a;have A:=D.below a;have F:=C.below a;have o:=u.trans (a.mono u.size);clear a B D C L X Y I S M u;have a:=n;obtain⟨p0,p1,p2,p3,p4,p5,p6⟩:=a;have a:=A;obtain⟨_,_,_,_,_,_,_⟩:=a;go_wp2;go_region_held (fun w'=>w'.cell? ⟨w.heap.size,0,O⟩=E (G b)/\w'.cell? ⟨w.heap.size,1,O⟩=E (V c l d)/\w'.cell? ⟨w.heap.size+1,2,O⟩=E (V f i g)) (first|(refine⟨?_,?_,?_⟩<;>(rw[far,far]<;>first|assumption|omega))|go_keep) (first|(go_at_call 206;refine(zdE _ _ s (by exact NatV.drew N)).mono ?_;rintro e z ⟨_,rfl,c,a⟩;have b:=n.drew.below a;obtain⟨_,_,_,_,_,_,_⟩:=b;have b:=A.drew.below a;obtain⟨_,_,_,_,_,_,_⟩:=b)|(go_at_call 205;refine(zcH _ _ _ p (s:Int) J K T (by exact(W.drewN 1).below a) c U (by simpa using hs)).mono ?_;rintro e B ⟨_,rfl,c,b⟩;obtain⟨f,d,u,l,rfl,i,g⟩:=c.parts;have c:=(n.drew.below a).below b;obtain⟨_,_,_,_,_,_,_⟩:=c;have c:=(A.drew.below a).below b;obtain⟨_,_,_,_,_,_,_⟩:=c;have c:=(F.drew.below a).below b;obtain⟨j,m,P,Q,R⟩:=c))
  have c:=o.trans ((zcM a).mono o.size);have a:=c.trans (b.mono c.size);go_wp2;exact zH (v:=ag #[G f,V d u l]) (by simp[results,results202,go_sem,j,m]) rfl ⟨_,rfl,Qv i g j m,
   (a.setCell so _).setCell so _⟩
theorem floor_any (K:Nat)(Q:K<=1073741822)(R:zca K)(w:H)(x:Value)(p:Int)(q:Nat)(h:qP w x p q)(S:p.natAbs<4294967296^K)(U:q<4294967296^K):
 Calls pg 210 #[x] w fun e w'=>∃t,e= .returned t/\zY w' t (p/(q:Int))/\Below w.heap.size w w':=by
 have u:=h;obtain⟨b,c,l,d,a,g,f,rfl,A,y,z,T,_⟩:=h.parts;have k:qk ((w.alloc (cl #[G b,V c l d,V a g f] 103)).alloc (cl #[G false,V O 0 0] 101)) w.heap.size (G b) (V c l d) (V a g f):=(qk.new _ _ _ _ _).alloc _;have m:qX ((w.alloc (cl #[G b,V c l d,V a g f] 103)).alloc (cl #[G false,V O 0 0] 101)) (w.heap.size+1) (G false) (V O 0 0):=qX.new1 _ _ _ _ _;have j:=J3 w (cl #[G b,V c l d,V a g f] 103) (cl #[G false,V O 0 0] 101);by_cases r:q=1
 ·subst r;go_enter func210,ntmps210
  go_wp2_with fail
  refine(zdo _ _ p ((u.alloc _).alloc _)).mono ?_;rintro e o ⟨rfl,a⟩;have W:=((A.alloc _).alloc _).below a;have s:=k.below a;have n:=m.below a;obtain⟨B,C,D,F,I,J,L⟩:=s;obtain⟨f,g,M,N,P⟩:=n;have i:=j.trans (a.mono j.size);clear a k m;go_wp2;exact zH (v:=ag #[G b,V c l d]) (by simp[results,results210,go_sem,f,g]) rfl ⟨_,rfl,by rw[JX,zbK];exact Qv W y f g,
   (i.setCell sp _).setCell sp _⟩
 ·rw[(zbZ T r).1]at z;go_enter func210,ntmps210
  go_wp2_with fail
  refine(zdQ _ _ p q ((u.alloc _).alloc _) r).mono ?_;rintro e o ⟨rfl,a⟩;have r:zY o (ag #[G b,V c l d]) p:=⟨b,_,rfl,((A.alloc _).alloc _).below a,y⟩;have b:=((z.alloc _).alloc _).below a;have s:=k.below a;have n:=m.below a;obtain⟨B,C,D,F,I,J,L⟩:=s;have i:=j.trans (a.mono j.size);clear a k m;go_wp2_with fail
  refine(zfj K Q R _ _ _ p q r b om S U).mono ?_;rintro e r ⟨_,rfl,j,a⟩;obtain⟨c,b,o,m,rfl,l,d⟩:=j.parts;have k:=n.below a;have j:=i.trans (a.mono i.size);obtain⟨f,g,M,N,P⟩:=k;clear a B C D F I J L n;go_wp2;exact zH (v:=ag #[G c,V b o m]) (by simp[results,results210,go_sem,f,g]) rfl ⟨_,rfl,Qv l d f g,
   (j.setCell sp _).setCell sp _⟩
end Go.Proofs.YtnhfdcfnojnofaaGreatDoor
