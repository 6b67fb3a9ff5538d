import Derived.Test.YtnhfdcfnojnofaaGreatDoorAds1Z6
import Derived.Test.YtnhfdcfnojnofaaGreatDoorAds1Z5
import Derived.Test.YtnhfdcfnojnofaaGreatDoorAds1Z7
open Option renaming none->O,some->E
open Go.Value renaming slice->V,bool->G,string->gS,pointer->pn,int->it,agg->ag
open Go.Obj renaming cells->cl
open Go renaming World->H
open Go.Proofs.Tryz renaming prog->pg
open Go.Proofs.Tryz
set_option linter.unusedSimpArgs false
set_option linter.unusedVariables false
set_option maxHeartbeats 2000000
set_option maxRecDepth 100000
namespace Go.Proofs.YtnhfdcfnojnofaaGreatDoor
open Go.RowKit
theorem zgZ {Z a:Int}{N b:Nat}(c:0<b)(h:a*(N:Int)=Z*(b:Int))(d:Nat.gcd a.natAbs b=1)(f:0<N):Z/(Nat.gcd Z.natAbs N:Int)=a/\N/Nat.gcd Z.natAbs N=b:=by
 have c:a.natAbs*N=Z.natAbs*b:=by
  have:=Zt Int.natAbs h;simpa[Zx]using this
 have e:b ∣ N:=by
  have:b ∣ a.natAbs*N:=⟨Z.natAbs,by rw[c,Qg]⟩;exact Nat.Coprime.dvd_of_dvd_mul_left (Nat.Coprime.symm d) this
 obtain⟨k,rfl⟩:=e;have g:0<k:=Zm (by rintro rfl;simp at f);have c:Z=a*(k:Int):=by
  have:(Z-a*k)*(b:Int)=0:=by
   rw[Int.sub_mul,<-h,JW];grind
  rcases Int.mul_eq_zero.1 this with h|h
  ·omega
  ·omega
 have e:Z.natAbs=a.natAbs*k:=by rw[c,Zx];simp
 have f:Nat.gcd Z.natAbs (b*k)=k:=by rw[e,Nat.gcd_mul_right,d,Qy]
 rw[f];refine⟨?_,Nat.mul_div_cancel _ g⟩;rw[c];exact zc9 _ om
theorem zko {p r:Int}{q s:Nat}(h:Nat.gcd p.natAbs q=1)(hs:Nat.gcd s q=1):Nat.gcd (p*(s:Int)+r*(q:Int)).natAbs q=1:=by
 have a:Int.gcd (p*(s:Int)+r*(q:Int)) (q:Int)=Int.gcd (p*(s:Int)) (q:Int):=Int.gcd_add_mul_right_left _ _ _;have b:Nat.gcd (p*(s:Int)).natAbs q=1:=by
  rw[Zx,Zc];exact Nat.Coprime.mul_left h hs
 simpa[Int.gcd]using a.trans b
theorem zkp {p r:Int}{q s g a b:Nat}(h:Nat.gcd p.natAbs q=1)(k:Nat.gcd r.natAbs s=1)(e:q=g*a)(hs:s=g*b)(c:Nat.gcd a b=1):Nat.gcd (p*(b:Int)+r*(a:Int)).natAbs (a*b)=1:=by
 have d:Nat.gcd p.natAbs a=1:=Jr ⟨g,by rw[e,Qg]⟩ h;have e:Nat.gcd r.natAbs b=1:=Jr ⟨g,by rw[hs,Qg]⟩ k;have b:=zko (r:=r) d ((JM _ _).trans c);have a:=zko (r:=p) e c;rw[Int.add_comm]at a;exact za2 b a
theorem zlU {p r:Int}{q s:Nat}(h:Nat.gcd p.natAbs q=1)(k:Nat.gcd r.natAbs s=1)(a:Nat.gcd q s=1):Nat.gcd (p*(s:Int)+r*(q:Int)).natAbs (q*s)=1:=
 zkp (g:=1) h k (Qy _).symm (Qy _).symm a
theorem zlV {q s:Nat}(b:0<q):q=Nat.gcd q s*(q/Nat.gcd q s)/\s=Nat.gcd q s*(s/Nat.gcd q s)/\Nat.gcd (q/Nat.gcd q s) (s/Nat.gcd q s)=1/\0<Nat.gcd q s/\0<q/Nat.gcd q s:=by
 have a:0<Nat.gcd q s:=Nat.gcd_pos_of_pos_left _ b;refine⟨(Nat.mul_div_cancel' (ZY _ _)).symm,(Nat.mul_div_cancel' (ZZ _ _)).symm,?_,a,zaO (QV b (ZY _ _)) a⟩;rw[Nat.gcd_div (ZY _ _) (ZZ _ _),Nat.div_self a]
theorem zgz {z:Int}{n:Nat}(b:n≠0):0<Nat.gcd z.natAbs n/\0<n/Nat.gcd z.natAbs n/\Nat.gcd (z/(Nat.gcd z.natAbs n:Int)).natAbs (n/Nat.gcd z.natAbs n)=1:=by
 have a:0<Nat.gcd z.natAbs n:=Qn _ (Zm b);refine⟨a,zaO (QV (Zm b) (ZZ _ _)) a,?_⟩;have b:(z/(Nat.gcd z.natAbs n:Int)).natAbs=z.natAbs/Nat.gcd z.natAbs n:=by
  rw[jq];·simp
  ·exact Q3.2 (ZY _ _)
 rw[b];rw[Nat.gcd_div (ZY _ _) (ZZ _ _),Nat.div_self a]
theorem zbM {z:Int}{n:Nat}:(z/(Nat.gcd z.natAbs n:Int)).natAbs ∣ z.natAbs:=by
 have a:(z/(Nat.gcd z.natAbs n:Int)).natAbs=z.natAbs/Nat.gcd z.natAbs n:=by
  rw[jq];·simp
  ·exact Q3.2 (ZY _ _)
 rw[a];exact Nat.div_dvd_of_dvd (ZY _ _)
theorem zgA {z:Int}{n:Nat}:(z/(Nat.gcd z.natAbs n:Int))*(Nat.gcd z.natAbs n:Int)=z:=
 Int.ediv_mul_cancel (Q3.2 (ZY _ _))
theorem zlW {p r:Int}{q s g a b d:Nat}{U:Int}(h:Nat.gcd p.natAbs q=1)(k:Nat.gcd r.natAbs s=1)(o:q=g*a)(hs:s=g*b)(v:Nat.gcd a b=1)(A:0<g)(l:U=p*(b:Int)+r*(a:Int))(x:d=Nat.gcd U.natAbs g):
 Nat.gcd (U/(d:Int)).natAbs (g/d*a*b)=1/\(U/(d:Int))*((q*s:Nat):Int)=(p*(s:Int)+r*(q:Int))*((g/d*a*b:Nat):Int):=by
 have m:=zkp h k o hs v;rw[<-l]at m;obtain⟨t,u,e⟩:=zgz (z:=U) (n:=g) om;have f:(U/(Nat.gcd U.natAbs g:Int))*(Nat.gcd U.natAbs g:Int)=U:=zgA;have i:(U/(Nat.gcd U.natAbs g:Int)).natAbs ∣ U.natAbs:=zbM;have j:g/Nat.gcd U.natAbs g*Nat.gcd U.natAbs g=g:=zdy (ZZ _ _);rw[<-x]at t u e f i j;refine⟨?_,?_⟩
 ·rw[ZD];exact za2 e (za3 i m)
 ·generalize U/(d:Int)=y at *;generalize g/d=c at *;subst o hs j;have:p*((c*d*b:Nat):Int)+r*((c*d*a:Nat):Int)=(c:Int)*(d:Int)*U:=by rw[l];push_cast;grind
  rw[this,<-f];push_cast;grind
theorem zlX {p r:Int}{q s a b:Nat}(h:Nat.gcd p.natAbs q=1)(k:Nat.gcd r.natAbs s=1)(c:0<q)(hs:0<s)(v:a=Nat.gcd p.natAbs s)(x:b=Nat.gcd r.natAbs q):
 Nat.gcd (p/(a:Int)*(r/(b:Int))).natAbs (s/a*(q/b))=1/\(p/(a:Int)*(r/(b:Int)))*((q*s:Nat):Int)=(p*r)*((s/a*(q/b):Nat):Int):=by
 obtain⟨m,o,e⟩:=zgz (z:=p) (n:=s) om;obtain⟨t,u,i⟩:=zgz (z:=r) (n:=q) om;have f:(p/(Nat.gcd p.natAbs s:Int))*(Nat.gcd p.natAbs s:Int)=p:=zgA;have j:(r/(Nat.gcd r.natAbs q:Int))*(Nat.gcd r.natAbs q:Int)=r:=zgA;have g:(p/(Nat.gcd p.natAbs s:Int)).natAbs ∣ p.natAbs:=zbM;have l:(r/(Nat.gcd r.natAbs q:Int)).natAbs ∣ r.natAbs:=zbM;have c:s/Nat.gcd p.natAbs s*Nat.gcd p.natAbs s=s:=zdy (ZZ _ _);have d:q/Nat.gcd r.natAbs q*Nat.gcd r.natAbs q=q:=zdy (ZZ _ _);rw[<-v]at m o e f g c;rw[<-x]at t u i j l d;refine⟨?_,?_⟩
 ·rw[Zx];have m:Nat.gcd (p/(a:Int)).natAbs (q/b)=1:=za3 g (Jr ⟨b,d.symm⟩ h);have g:Nat.gcd (r/(b:Int)).natAbs (s/a)=1:=za3 l (Jr ⟨a,c.symm⟩ k);exact Nat.Coprime.mul_left (za2 e m) (za2 g i)
 ·generalize p/(a:Int)=e at *;generalize r/(b:Int)=e at *;generalize s/a=a at *;generalize q/b=e at *;rw[<-f,<-j,<-c,<-d];push_cast;grind
theorem qP.setCell {w:H}{x:Value}{p:Int}{q:Nat}(h:qP w x p q){a:Addr}{y:Value}(c:w.cell? a=E y)(b:∀k,y≠it .u32 k)(t:Value):qP (w.setCell a t) x p q:=by
 obtain⟨d,v,u,e,f,g,i,j⟩:=h;exact⟨d,v,u,e,f.setCell c b t,g,i.setCell c b t,j⟩
theorem zkM {a b K:Nat}(c:a<4294967296^K)(d:b<4294967296^K):a*b<4294967296^(K+K):=by
 rw[ZI];exact zbc c d
theorem zdS {z:Int}{b K:Nat}(a:z.natAbs<4294967296^K)(c:b<4294967296^K):(z*(b:Int)).natAbs<4294967296^(K+K):=by
 rw[Zx,Zc];exact zkM a c
def Held (w:H)(b c:Bool)(ao ao' bo bo':Option Addr)(l cap l' cap' m dap m' dap':Nat)(p r:Int)(q s:Nat)(wc:H):Prop:=
 qk wc w.heap.size (G b) (V ao l cap) (V ao' l' cap')/\qk wc (w.heap.size+1) (G c) (V bo m dap) (V bo' m' dap')/\qk wc (w.heap.size+1+1) (G false) (V O 0 0) (V O 0 0)/\qP wc (ag #[G b,V ao l cap,V ao' l' cap']) p q/\qP wc (ag #[G c,V bo m dap,V bo' m' dap']) r s/\Below w.heap.size w wc/\w.heap.size+1+1<wc.heap.size
theorem Held.below {w:H}{b c:Bool}{d e f g:Option Addr}{l cap n i m j o k:Nat}{p r:Int}{q s:Nat}{u v:H}(h:Held w b c d e f g l cap n i m j o k p r q s u)(a:Below u.heap.size u v):Held w b c d e f g l cap n i m j o k p r q s v:=by
 obtain⟨e,f,g,i,j,d,k⟩:=h;exact⟨e.below a,f.below a,g.below a,i.below a,j.below a,d.trans (a.mono d.size),zv k a.size⟩
theorem Held.setCell {w:H}{b c:Bool}{a d e f:Option Addr}{l cap z i m j A n:Nat}{p r:Int}{q s:Nat}{u:H}(h:Held w b c a d e f l cap z i m j A n p r q s u){g o:Nat}{y:Value}(B:w.heap.size+1+1<g)(v:u.cell? ⟨g,o,O⟩=E y)(t:∀k,y≠it .u32 k)(x:Value):
 Held w b c a d e f l cap z i m j A n p r q s (u.setCell ⟨g,o,O⟩ x):=by
 obtain⟨a,d,e,f,i,j,n⟩:=h;exact⟨a.far om,d.far om,e.far om,f.setCell v t x,i.setCell v t x,j.setCell so x,by simpa using n⟩
theorem qX.stored {w:H}{g:Nat}{f b:Bool}{c a:Option Addr}{e d l k:Nat}(h:qX w g (G f) (V c e d)):qX ((w.setCell ⟨g,0,O⟩ (G b)).setCell ⟨g,1,O⟩ (V a l k)) g (G b) (V a l k):=by
 obtain⟨f,i,j,m,n⟩:=h;have o:(w.setCell ⟨g,0,O⟩ (G b)).cell? ⟨g,1,O⟩=E (V c e d):=by rw[zp _ _ _ _ sp];exact i
 refine⟨?_,zu _ _ _ o,by simpa using j,by simpa using m,by simpa using n⟩;rw[zp _ _ _ _ sp];exact zu _ _ _ f
theorem zY.stored {w:H}{x:Value}{z:Int}(m:zY w x z){g:Nat}{f b:Bool}{c a:Option Addr}{e d l k:Nat}(h:qX w g (G f) (V c e d)):zY ((w.setCell ⟨g,0,O⟩ (G b)).setCell ⟨g,1,O⟩ (V a l k)) x z:=by
 obtain⟨f,i,_,_,_⟩:=h;have j:(w.setCell ⟨g,0,O⟩ (G b)).cell? ⟨g,1,O⟩=E (V c e d):=by rw[zp _ _ _ _ sp];exact i
 exact(m.setCell f sp _).setCell j sp _
def zeO (w:H)(g:Nat)(p:Int)(q:Nat):Prop:=
 ∃b a l k a' l' k',qk w g (G b) (V a l k) (V a' l' k')/\qP w (ag #[G b,V a l k,V a' l' k']) p q
abbrev set3 (w:H)(g:Nat)(x y z:Value):H:=((w.setCell ⟨g,0,O⟩ x).setCell ⟨g,1,O⟩ y).setCell ⟨g,2,O⟩ z
abbrev Qd (w:H)(g:Nat):Prop:=qk w g (G false) (V O 0 0) (V O 0 0)
theorem zeO.below {w w':H}{g:Nat}{p:Int}{q:Nat}(h:zeO w g p q)(a:Below w.heap.size w w'):zeO w' g p q:=by
 obtain⟨d,b,l,k,c,j,i,e,f⟩:=h;exact⟨d,b,l,k,c,j,i,e.below a,f.below a⟩
theorem qk.written {w:H}{g:Nat}{i:Bool}{a b:Option Addr}{e c f d:Nat}(h:qk w g (G i) (V a e c) (V b f d))(x y z:Value):qk (set3 w g x y z) g x y z:=by
 obtain⟨i,j,k,m,n,o,p⟩:=h;have l:(w.setCell ⟨g,0,O⟩ x).cell? ⟨g,1,O⟩=E (V a e c):=by rw[zp _ _ _ _ sp];exact j
 have a:((w.setCell ⟨g,0,O⟩ x).setCell ⟨g,1,O⟩ y).cell? ⟨g,2,O⟩=E (V b f d):=by
  rw[zp _ _ _ _ sp,zp _ _ _ _ sp];exact k
 refine⟨?_,?_,zu _ _ _ a,by simpa using m,by simpa using n,by simpa using o,by simpa using p⟩;·rw[zp _ _ _ _ sp,zp _ _ _ _ sp];exact zu _ _ _ i
 ·rw[zp _ _ _ _ sp];exact zu _ _ _ l
theorem NatV.set3 {w:H}{v:Value}{n:Nat}(h:NatV w v n){g:Nat}{i:Bool}{a b:Option Addr}{e c f d:Nat}(l:qk w g (G i) (V a e c) (V b f d))(x y z:Value):NatV (Go.Proofs.YtnhfdcfnojnofaaGreatDoor.set3 w g x y z) v n:=by
 obtain⟨i,j,k,_,_,_,_⟩:=l;have l:(w.setCell ⟨g,0,O⟩ x).cell? ⟨g,1,O⟩=E (V a e c):=by rw[zp _ _ _ _ sp];exact j
 have a:((w.setCell ⟨g,0,O⟩ x).setCell ⟨g,1,O⟩ y).cell? ⟨g,2,O⟩=E (V b f d):=by
  rw[zp _ _ _ _ sp,zp _ _ _ _ sp];exact k
 exact((h.setCell i sp _).setCell l sp _).setCell a sp _
theorem qP.set3 {w:H}{v:Value}{p:Int}{q:Nat}(h:qP w v p q){g:Nat}{d:Bool}{b c:Option Addr}{i e j f:Nat}(a:qk w g (G d) (V b i e) (V c j f))(x y z:Value):qP (Go.Proofs.YtnhfdcfnojnofaaGreatDoor.set3 w g x y z) v p q:=by
 obtain⟨b,v,u,c,d,e,f,i⟩:=h;exact⟨b,v,u,c,d.set3 a x y z,e,f.set3 a x y z,i⟩
theorem qk.far3 {w:H}{g h:Nat}{x y z u v t:Value}(b:qk w g x y z)(a:h≠g):qk (set3 w h u v t) g x y z:=((b.far a).far a).far a
theorem zdT {B:Nat}{w w':H}(h:Below B w w'){g:Nat}(a:B<=g)(x y z:Value):Below B w (set3 w' g x y z):=
 ((h.setCell (p:=⟨g,0,O⟩) a x).setCell (p:=⟨g,1,O⟩) a y).setCell (p:=⟨g,2,O⟩) a z
theorem Jb {w:H}{o:Obj}{p:Addr}{v:Value}(h:w.cell? p=E v):(w.alloc o).cell? p=E v:=
 (((zR _ w).alloc (zh _) o).cell (zN h)).trans h
def Held2 (w:H)(g5 g6:Nat)(b5 b6:Bool)(a5 a5' a6 a6':Option Addr)(l5 k5 l5' k5' l6 k6 l6' k6':Nat)(p r:Int)(q s:Nat)(wc:H):Prop:=
 qk wc g5 (G b5) (V a5 l5 k5) (V a5' l5' k5')/\qk wc g6 (G b6) (V a6 l6 k6) (V a6' l6' k6')/\Qd wc (w.heap.size+1+1)/\qP wc (ag #[G b5,V a5 l5 k5,V a5' l5' k5']) p q/\qP wc (ag #[G b6,V a6 l6 k6,V a6' l6' k6']) r s/\Below w.heap.size w wc
theorem Held2.below {w:H}{i j:Nat}{f g:Bool}{b c d e:Option Addr}{o k t l x m y n:Nat}{p r:Int}{q s:Nat}{u v:H}(h:Held2 w i j f g b c d e o k t l x m y n p r q s u)(a:Below u.heap.size u v):Held2 w i j f g b c d e o k t l x m y n p r q s v:=by
 obtain⟨c,d,e,f,g,b⟩:=h;exact⟨c.below a,d.below a,e.below a,f.below a,g.below a,b.trans (a.mono b.size)⟩
theorem qP.whole' {w:H}{b:Bool}{v u:Value}{p:Int}{q:Nat}(h:qP w (ag #[G b,v,u]) p q):zY w (ag #[G b,v]) p:=by
 obtain⟨_,_,_,a,c,d,_⟩:=h;simp only[zby,Array.mk.injEq,zaI,zcp,zcn]at a;obtain⟨rfl,rfl,rfl⟩:=a;exact⟨_,_,rfl,c,d⟩
def Ext (w w':H):Prop:=Below w.heap.size w w'
theorem Ext.refl (w:H):Ext w w:=zR _ _
theorem Ext.alloc {w w':H}(h:Ext w w')(o:Obj):Ext w (w'.alloc o):=Below.alloc h h.size o
theorem Ext.drew {w w':H}(h:Ext w w'):Ext w w'.drew:=⟨h.os,h.tape,h.output,h.size,h.block⟩
theorem Ext.trans {u v w:H}(h:Ext u v)(k:Ext v w):Ext u w:=ZA h (k.mono h.size)
theorem Ext.of {u v:H}(h:Below u.heap.size u v):Ext u v:=h
theorem Ext.size {w w':H}(h:Ext w w'):w.heap.size<=w'.heap.size:=Below.size h
abbrev set2 (w:H)(g:Nat)(x y:Value):H:=(w.setCell ⟨g,0,O⟩ x).setCell ⟨g,1,O⟩ y
theorem Ext.set2 {w w':H}(h:Ext w w'){g:Nat}(a:w.heap.size<=g)(x y:Value):Ext w (Go.Proofs.YtnhfdcfnojnofaaGreatDoor.set2 w' g x y):=
 (Qu (p:=⟨g,0,O⟩) h a x).setCell (p:=⟨g,1,O⟩) a y
theorem Ext.set3 {w w':H}(h:Ext w w'){g:Nat}(a:w.heap.size<=g)(x y z:Value):Ext w (Go.Proofs.YtnhfdcfnojnofaaGreatDoor.set3 w' g x y z):=zdT h a x y z
theorem Ext.cell {w w':H}(h:Ext w w'){p:Addr}{v:Value}(a:w.cell? p=E v):w'.cell? p=E v:=
 (Below.cell h (zN a)).trans a
abbrev Z3:Obj:=cl #[G false,V O 0 0,V O 0 0] 103
theorem Qd.one (w:H):Qd (w.alloc Z3) w.heap.size:=qk.new w _ _ _ _
theorem Qd.one' (w:H)(o:Obj):Qd ((w.alloc Z3).alloc o) w.heap.size:=qk.alloc (qk.new w _ _ _ _) o
theorem Qd.two (w:H)(o:Obj):Qd ((w.alloc o).alloc Z3) (w.heap.size+1):=qk.new1 w o _ _ _ _
theorem Qd.oneD (w:H):Qd (w.alloc Z3).drew w.heap.size:=Qd.one w
theorem Qd.oneD' (w:H)(o:Obj):Qd ((w.alloc Z3).alloc o).drew w.heap.size:=Qd.one' w o
theorem Qd.twoD (w:H)(o:Obj):Qd ((w.alloc o).alloc Z3).drew (w.heap.size+1):=Qd.two w o
abbrev Js (w:H)(g:Nat):Prop:=qX w g (G false) (V O 0 0)
theorem Js.one (w:H):Js (w.alloc (cl #[G false,V O 0 0] 101)) w.heap.size:=qX.new w _ _ _
theorem Js.oneD (w:H):Js (w.alloc (cl #[G false,V O 0 0] 101)).drew w.heap.size:=qX.new w _ _ _
theorem Js.ext {u v:H}{g:Nat}(a:Ext u v)(h:Js u g):Js v g:=qX.below h a
theorem Qd.ext {u v:H}{g:Nat}(a:Ext u v)(h:Qd u g):Qd v g:=qk.below h a
theorem qk.ext {u v:H}{g:Nat}{x y z:Value}(h:qk u g x y z)(a:Ext u v):qk v g x y z:=qk.below h a
theorem NatV.ext {u v:H}{x:Value}{n:Nat}(h:NatV u x n)(a:Ext u v):NatV v x n:=h.below a
theorem zY.ext {u v:H}{x:Value}{n:Int}(h:zY u x n)(a:Ext u v):zY v x n:=h.below a
theorem qP.ext {u v:H}{x:Value}{p:Int}{q:Nat}(h:qP u x p q)(a:Ext u v):qP v x p q:=h.below a
theorem Held.ext {w:H}{b c:Bool}{a d e f:Option Addr}{l cap k g m i n j:Nat}{p r:Int}{q s:Nat}{u v:H}(h:Held w b c a d e f l cap k g m i n j p r q s u)(o:Ext u v):Held w b c a d e f l cap k g m i n j p r q s v:=h.below o
def Cut2 (w:H)(p r:Int)(q s:Nat)(s5 s6:Value)(wc:H):Prop:=
 ∃g5 g6:Nat,s5=pn (E ⟨g5,0,O⟩)/\s6=pn (E ⟨g6,0,O⟩)/\zeO wc g5 p q/\zeO wc g6 r s/\Qd wc (w.heap.size+1+1)/\Below w.heap.size w wc/\w.heap.size+1+1<g5/\w.heap.size+1+1<g6
theorem znd {w u:H}{p r:Int}{q s:Nat}{a b:Nat}{e l:Bool}{c d j k:Option Addr}{h f i g o m x n:Nat}(B:qP u (ag #[G e,V c h f,V d i g]) p q)(C:qP u (ag #[G l,V j o m,V k x n]) r s)(F:Qd u (w.heap.size+1+1))(D:Below w.heap.size w u)
 (y:Qd u a) (K:Qd u b) (A:a≠b) (I:w.heap.size+1+1<a) (J:w.heap.size+1+1<b):
 Cut2 w p r q s (pn (E ⟨a,0,O⟩)) (pn (E ⟨b,0,O⟩)) (set3 (set3 u a (G e) (V c h f) (V d i g)) b (G l) (V j o m) (V k x n)):=by
 have z:=K.far3 (u:=G e) (v:=V c h f) (t:=V d i g) A;refine⟨a,b,rfl,rfl,⟨e,c,h,f,d,i,g,(y.written _ _ _).far3 (fun e=>A e.symm),(B.set3 y _ _ _).set3 z _ _ _⟩,⟨l,j,o,m,k,x,n,z.written _ _ _,(C.set3 y _ _ _).set3 z _ _ _⟩,(F.far3 om).far3 om,zdT (zdT D om _ _ _) om _ _ _,I,J⟩
theorem zh0 {w u:H}{p r:Int}{q s:Nat}{a:Nat}{d k:Bool}{b c i j:Option Addr}{g e h f n l o m:Nat}{t:TypeId}(B:qP u (ag #[G d,V b g e,V c h f]) p q)(C:qP u (ag #[G k,V i n l,V j o m]) r s)(z:Qd u (w.heap.size+1+1))(y:Below w.heap.size w u)
 (v:Qd u a) (D:w.heap.size+1+1<a):
 Cut2 w p r q s (pn (E ⟨a,0,O⟩)) (pn (E ⟨u.heap.size,0,O⟩)) ((set3 u a (G d) (V b g e) (V c h f)).alloc (cl #[G k,V i n l,V j o m] t)):=by
 have x:=zdT y (show w.heap.size<=a by omega) (G d) (V b g e) (V c h f);have y:=qk.new (set3 u a (G d) (V b g e) (V c h f)) (G k) (V i n l) (V j o m) t;have A:(set3 u a (G d) (V b g e) (V c h f)).heap.size=u.heap.size:=sp;rw[A]at y;exact⟨a,u.heap.size,rfl,rfl,⟨d,b,g,e,c,h,f,(v.written _ _ _).alloc _,(B.set3 v _ _ _).alloc _⟩,⟨k,i,n,l,j,o,m,y,(C.set3 v _ _ _).alloc _⟩,(z.far3 om).alloc _,x.alloc x.size _,D,z.2.2.2.2.2.2⟩
theorem zlY {w u:H}{p r:Int}{q s:Nat}{a:Nat}{f g:Bool}{b c d e:Option Addr}{l h m i n j o k:Nat}{t:TypeId}(v:qP u (ag #[G f,V b l h,V c m i]) p q)(x:qP u (ag #[G g,V d n j,V e o k]) r s)(z:Qd u (w.heap.size+1+1))(y:Below w.heap.size w u)
 (B:Qd u a) (A:w.heap.size+1+1<a):
 Cut2 w p r q s (pn (E ⟨u.heap.size,0,O⟩)) (pn (E ⟨a,0,O⟩)) ((set3 u a (G g) (V d n j) (V e o k)).alloc (cl #[G f,V b l h,V c m i] t)):=by
 obtain⟨g,c,a,b,d,e,f,h,i,j⟩:=zh0 (w:=w) (t:=t) x v z y B A;exact⟨c,g,b,a,e,d,f,h,j,i⟩
theorem zh1 {w u:H}{p r:Int}{q s:Nat}{e f:Bool}{a b c d:Option Addr}{m i n j o k v l:Nat}{t:TypeId}(x:qP u (ag #[G e,V a m i,V b n j]) p q)(y:qP u (ag #[G f,V c o k,V d v l]) r s)(h:Qd u (w.heap.size+1+1))(g:Below w.heap.size w u):
 Cut2 w p r q s (pn (E ⟨u.heap.size,0,O⟩)) (pn (E ⟨u.heap.size+1,0,O⟩)) ((u.alloc (cl #[G e,V a m i,V b n j] t)).alloc (cl #[G f,V c o k,V d v l] t)):=
 ⟨u.heap.size,u.heap.size+1,rfl,rfl,⟨e,a,m,i,b,n,j,(qk.new _ _ _ _ _).alloc _,(x.alloc _).alloc _⟩,⟨f,c,o,k,d,v,l,qk.new1 _ _ _ _ _ _,(y.alloc _).alloc _⟩,(h.alloc _).alloc _,(g.alloc g.size _).alloc (zL g.size sp) _,h.2.2.2.2.2.2,Nat.lt_succ_of_lt h.2.2.2.2.2.2⟩
theorem zkN {w u:H}{p r:Int}{q s:Nat}{e f:Bool}{a b c d:Option Addr}{k g l h m i n j:Nat}{t:TypeId}(o:qP u (ag #[G e,V a k g,V b l h]) p q)(v:qP u (ag #[G f,V c m i,V d n j]) r s)(y:Qd u (w.heap.size+1+1))(x:Below w.heap.size w u):
 Cut2 w p r q s (pn (E ⟨u.heap.size+1,0,O⟩)) (pn (E ⟨u.heap.size,0,O⟩)) ((u.alloc (cl #[G f,V c m i,V d n j] t)).alloc (cl #[G e,V a k g,V b l h] t)):=by
 obtain⟨g,c,a,b,d,e,f,h,i,j⟩:=zh1 (w:=w) (t:=t) v o y x;exact⟨c,g,b,a,e,d,f,h,j,i⟩
def JP (v:Value):Prop:=∀n,v≠it .u32 n
def qU (w:H)(k:Nat):Prop:=(∃o:Obj,w.heap[k]? =E o/\o.isCells=true)/\∀o v,w.cell? ⟨k,o,O⟩=E v->∀n,v≠it .u32 n
theorem qj {w:H}{g:Nat}{cs:Array Value}{t:TypeId}{a:Nat×Nat}(h:w.heap[g]? =E (cl cs t a))(c:∀v∈cs.toList,JP v):qU w g:=by
 refine⟨⟨_,h,rfl⟩,fun o v b n=>?_⟩;rw[qh w g o cs t a h]at b;exact c v (by simpa using Array.mem_of_getElem? b) n
theorem qU.block {w:H}{g:Nat}{cs:Array Value}{t:TypeId}{a:Nat×Nat}(c:qU w g)(h:w.heap[g]? =E (cl cs t a)):∀v∈cs.toList,JP v:=by
 intro v d;obtain⟨j,b,rfl⟩:=Array.mem_iff_getElem.1 (by simpa using d:v∈cs);refine c.2 j _ ?_;rw[qh w g j cs t a h,ZM b]
theorem zfk {z:Array Value}{k:Nat}(d:∀u∈z.toList,JP u):∀u∈(Builtin.zeroCells z k).toList,JP u:=by
 intro u a;simp[Builtin.zeroCells]at a;obtain⟨j,b,rfl⟩:=a;have c:0<z.size:=by
  rcases Qc z.size with h|h
  ·rw[h]at b;omega
  ·exact h
 have a:j%z.size<z.size:=Qx _ c;refine d _ ?_;rw[getElem!_pos z (j%z.size) a];simp
section
variable {P:Program} (w:World)
theorem zi3 (t q:TypeId)(base:Nat)(e:TypeId)(i:TypeInfo)(z:Value)(size bytes:Nat)(D:P.underlying t=E (.slice e))(y:P.info? e=E i)(J:i.zero=E z)
 (l:i.size=size) (h:i.bytes=bytes) (s:z.cells.size=size) (r:0<size)
 (v:Value) (n:Nat) (F:List Value) (C:w.ownsRow base e size v n F)
 (k:Addr) (m c:Nat) (d:List Value) (p:d.length=m*size) (A:∀j u,d[j]? =E u->w.cell? (k.add j)=E u) (h1:∀u∈d,u.oneCell'=true)
 (o:0<m) (f:n+m<=maxLen) (I:(n+m)*bytes<=140737488355328)
 (K:∀u∈z.cells.toList,JP u) (B:∀u∈d,JP u) (M:∀g,v.ownBlock=E g->qU w g) {b:Value} {w':H}
 (a:(Builtin.append_ #[t,t] q #[v,V (E k) m c]).run P w= .ok b w'):∀g,b.ownBlock=E g->qU w' g:=by
 subst l;subst h;have b:n+m<=9223372036854775807:=by simp only[maxLen]at f;omega
 rcases C.2 with ⟨rfl,rfl⟩|⟨g,r,s,rfl,_,f,_,_,L,N⟩
 ·have o:=run_append_nil (P:=P) w t q e i z D y J k m c d p A om om (by have b:=I;simp only[qi]at b;omega);rw[o]at a;simp only[Result.ok.injEq]at a;obtain⟨rfl,rfl⟩:=a;intro g f;simp[Value.ownBlock]at f;subst f;refine qj (zq w.drew _) ?_;intro u b;rw[zda,Zs]at b;rcases b with h|h
  ·exact B u (by simpa using h)
  ·exact zfk K u h
 ·have x:=(M g rfl).block f;by_cases l:n+m<=r
  ·have M:n*i.size+d.length<=s.size:=by rw[p,L,<-ZO];exact qM _ l
   have o:=run_append_room (P:=P) w t q e i D y g n r s f k m c d p A h1 l M;rw[o]at a;simp only[Result.ok.injEq]at a;obtain⟨rfl,rfl⟩:=a;intro L l;simp[Value.ownBlock]at l;subst l;refine qj (setRow_heap w g s _ e _ f) ?_;intro u b;simp only[Zs]at b;rcases b with (h|h)|h
   ·exact x u (Zv h)
   ·exact B u h
   ·exact x u (QO h)
  ·have f:=C.cells (g:=g) rfl;have o:=run_append_grow (P:=P) w t q e i z D y J ⟨g,0,O⟩ n r F C.1 f k m c d p A om om (growslice_fits om I);rw[o]at a;simp only[Result.ok.injEq]at a;obtain⟨rfl,rfl⟩:=a;intro L l;simp[Value.ownBlock]at l;subst l;refine qj (zq w.drew _) ?_;intro u b;rw[zda,zda,Zs,Zs]at b;rcases b with (h|h)|h
   ·exact x u (Zv (by rw[N];simpa using h))
   ·exact B u (by simpa using h)
   ·exact zfk K u h
theorem zfl {o:Oper}{a:Act}{K:Act->H->Prop}{Q:Exit->Act->H->Prop}(s x:Operand)(t:TypeId)
 (ho:o.op= .call { callee:= .builtin .append,args:=#[s,x],argTypes:=#[t,t] })
 (base:Nat) (e:TypeId) (i:TypeInfo) (z:Value) (size bytes:Nat) (J:P.underlying t=E (.slice e)) (r:P.info? e=E i) (L:i.zero=E z)
 (F:i.size=size) (p:i.bytes=bytes) (M:z.cells.size=size) (I:0<size)
 (v:Value) (n:Nat) (f:List Value) (hs:a.eval s=v) (C:w.ownsRow base e size v n f)
 (d:Addr) (m c:Nat) (b:List Value) (Y:a.eval x=V (E d) m c) (y:b.length=m*size) (B:∀j u,b[j]? =E u->w.cell? (d.add j)=E u) (h1:∀u∈b,u.oneCell'=true)
 (A:0<m) (l:n+m<=maxLen) (q:(n+m)*bytes<=140737488355328) (U:base<=w.heap.size) (k:Nat) (T:w.heap.size=k)
 (Z:∀u∈z.cells.toList,JP u) (W:∀u∈b,JP u) (X:∀g,v.ownBlock=E g->qU w g)
 (h:∀g cap w',w'.ownsRow base e size (V (E ⟨g,0,O⟩) (n+m) cap) (n+m) (f++b)->w.grownBy w' v.ownBlock->(v.ownBlock=E g\/g=k)->g<w'.heap.size->qU w' g->K (a.put o.dst (V (E ⟨g,0,O⟩) (n+m) cap)) w'):o.wp P a w K Q:=by
 obtain⟨g,cap,w',D,N,Q,R,S⟩:=run_append_lies (P:=P) w t o.type base e i z size bytes J r L F p M I v n f C d m c b y B h1 A l q U k T;have k:=zi3 (P:=P) w t o.type base e i z size bytes J r L F p M I v n f C d m c b y B h1 A l q Z W X D g rfl;unfold Oper.wp execOp;simp only[ho,resolve,invoke,builtin,Sem.run_bind,Sem.run_pure,Result.andThen_ok,List.map_toArray,ZF,jE,hs,Y,D];exact h g cap w' N Q R S k
theorem J6 {l:Array Oper}{rest:List Oper}{o:Oper}{a:Act}{Q:Exit->Act->H->Prop}(r:o.guard=O)(s x:Operand)(t:TypeId)
 (ho:o.op= .call { callee:= .builtin .append,args:=#[s,x],argTypes:=#[t,t] })
 (base:Nat) (e:TypeId) (i:TypeInfo) (z:Value) (size bytes:Nat) (N:P.underlying t=E (.slice e)) (C:P.info? e=E i) (T:i.zero=E z)
 (L:i.size=size) (A:i.bytes=bytes) (W:z.cells.size=size) (M:0<size)
 (v:Value) (n:Nat) (k:List Value) (hs:a.eval s=v) (K:w.ownsRow base e size v n k)
 (f:Addr) (m c:Nat) (b:List Value) (S:a.eval x=V (E f) m c) (D:b.length=m*size) (I:∀j u,b[j]? =E u->w.cell? (f.add j)=E u) (h1:∀u∈b,u.oneCell'=true)
 (F:0<m) (p:n+m<=maxLen) (B:(n+m)*bytes<=140737488355328) (y:base<=w.heap.size) (d:Nat) (q:w.heap.size=d)
 (U:∀u∈z.cells.toList,JP u) (J:∀u∈b,JP u) (R:∀g,v.ownBlock=E g->qU w g)
 (h:∀g cap w',w'.ownsRow base e size (V (E ⟨g,0,O⟩) (n+m) cap) (n+m) (k++b)->w.grownBy w' v.ownBlock->(v.ownBlock=E g\/g=d)->g<w'.heap.size->qU w' g->wpList P l Q rest (a.put o.dst (V (E ⟨g,0,O⟩) (n+m) cap)) w'):wpList P l Q (o::rest) a w:=
 wpList_plain r fun _ r=>zfl w s x t ho base e i z size bytes N C T L A W M v n k hs K f m c b S D I h1 F p B y d q U J R fun g cap w' b d f k l=>r _ _ (h g cap w' b d f k l)
theorem zbz {l:Array Oper}{o:Oper}{a:Act}{K:Act->H->Prop}{Q:Exit->Act->H->Prop}{p:Prop}(C:o.guard=O)(s x:Operand)(t:TypeId)
 (ho:o.op= .call { callee:= .builtin .append,args:=#[s,x],argTypes:=#[t,t] })
 (base:Nat) (e:TypeId) (i:TypeInfo) (z:Value) (size bytes:Nat) (S:P.underlying t=E (.slice e)) (D:P.info? e=E i) (W:i.zero=E z)
 (N:i.size=size) (A:i.bytes=bytes) (Y:z.cells.size=size) (R:0<size)
 (v:Value) (n:Nat) (k:List Value) (hs:a.eval s=v) (M:w.ownsRow base e size v n k)
 (f:Addr) (m c:Nat) (b:List Value) (U:a.eval x=V (E f) m c) (F:b.length=m*size) (J:∀j u,b[j]? =E u->w.cell? (f.add j)=E u) (h1:∀u∈b,u.oneCell'=true)
 (I:0<m) (q:n+m<=maxLen) (B:(n+m)*bytes<=140737488355328) (y:base<=w.heap.size) (d:Nat) (r:w.heap.size=d)
 (X:∀u∈z.cells.toList,JP u) (L:∀u∈b,JP u) (T:∀g,v.ownBlock=E g->qU w g)
 (h:∀g cap w',w'.ownsRow base e size (V (E ⟨g,0,O⟩) (n+m) cap) (n+m) (k++b)->w.grownBy w' v.ownBlock->(v.ownBlock=E g\/g=d)->g<w'.heap.size->qU w' g->K (a.put o.dst (V (E ⟨g,0,O⟩) (n+m) cap)) w'):
 if Region.wanted o (yielded l a.tmps)=true then Oper.wp P o a w K Q else p:=by
 have p:Region.wanted o (yielded l a.tmps)=true:=by simp[Region.wanted,C]
 rw[z8 p];exact zfl w s x t ho base e i z size bytes S D W N A Y R v n k hs M f m c b U F J h1 I q B y d r X L T h
end
end Go.Proofs.YtnhfdcfnojnofaaGreatDoor
namespace Go.Proofs.YtnhfdcfnojnofaaGreatDoor.T
open Go.RowKit
theorem zf5 {n:Nat}(h:n≠0):Top [n]:=by
 intro k a;obtain rfl:k=0:=by simpa using a
 simpa using h
theorem zf6 {n:Nat}(h:n<10000):Dig [n]:=fun d a=>by simp at a;omega
theorem zg0 (w:H)(n:Nat)(a:n≠0)(h:n<10000):NV (w.alloc (cl #[it .i64 (n:Int)] 3)) (V (E ⟨w.heap.size,0,O⟩) 1 1) n:=by
 refine⟨[n],Or.inr ⟨w.heap.size,0,1,rfl,zh _,sp,fun i b=>?_,⟨_,_,zq _ _⟩⟩,zf6 h,zf5 a,zbY n⟩;obtain rfl:i=0:=by simpa using b
 simp
theorem zdU (w:H)(x:Value)(p:Int)(q:Nat)(h:qe w x p q)(K:Nat)(f:p.natAbs<10000^K):
 Calls pg 104 #[x] w fun e w'=>∃y,e= .returned y/\qe w' y (-p) q/\Below w.heap.size w w':=by
 obtain⟨o,c,l,d,g,n,i,rfl,b,j,m,k⟩:=h.parts;have a:=zcK b f;have f:Hid (NV w (V c l d) (-p).natAbs):=by rw[Hid,QX];exact b
 cases o with
 |true=>
  have b:Hid (false=decide (-p<0)):=by
   have:=j.out;simp at this;rw[Hid];simp;omega
  clear a;go_enter func104,ntmps104
  go_wp2;exact zH (v:=ag #[G false,V c l d,V g n i]) (by simp[results,results104,go_sem]) rfl ⟨_,rfl,⟨_,_,_,rfl,(f.out.alloc _).alloc _,b,(m.alloc _).alloc _,k⟩,J3 w _ _⟩
 |false=>
  have b:Hid (decide (0<l)=decide (-p<0)):=by
   have o:=j.out;simp at o;rw[Hid];exact Q8.2 ⟨fun h=>by have:=fun e=>(Jv.1 h) (a.2.2 e);omega,fun h=>Zm fun e=>by have:=a.2.1 e;omega⟩
  clear a;go_enter func104,ntmps104
  go_wp2;exact zH (v:=ag #[G (decide (0<l)),V c l d,V g n i]) (by simp[results,results104,go_sem]) rfl ⟨_,rfl,⟨_,_,_,rfl,(f.out.alloc _).alloc _,b,(m.alloc _).alloc _,k⟩,J3 w _ _⟩
theorem sign_any (w:H)(x:Value)(p:Int)(q:Nat)(h:qe w x p q)(K:Nat)(d:p.natAbs<10000^K):
 Calls pg 115 #[x] w fun e w'=>e= .returned (it .i64 p.sign)/\Below w.heap.size w w':=by
 obtain⟨a,c,l,i,g,m,j,rfl,k,f,_,_⟩:=h.parts;have b:=zcK k d;have d:Below w.heap.size w (w.alloc (cl #[G a,V c l i,V g m j] 118)):=(zR _ _).alloc (zh _) _;cases a with
 |true=>
  have a:Hid (p.sign=-1):=jf (by have:=f.out;simp at this;exact this);clear b;go_enter func115,ntmps115
  go_wp2;go_ret;exact⟨QW a.out.symm,d⟩
 |false=>
  have c:=f.out;simp at c;by_cases f:l=0
  ·have a:Hid (p.sign=0):=by rw[Hid,zbA];have:=b.2.1 f;omega
   subst f;clear b c;go_enter func115,ntmps115
   go_wp2;go_ret;exact⟨QW a.out.symm,d⟩
  ·have a:Hid (p.sign=1):=jp (by have:=fun e=>f (b.2.2 e);omega);have f:(0:Int)<(l:Int):=om;clear b c;go_enter func115,ntmps115
   go_wp2;go_ret;exact⟨QW a.out.symm,d⟩
theorem nv_one {w:H}{b:Option Addr}{l cap n:Nat}(h:NV w (V b l cap) n):(n=1->l=1/\∃g a,b=E ⟨g,a,O⟩/\w.cell? ⟨g,a,O⟩=E (it .i64 1))/\(n≠1->l=1->∃g a z,b=E ⟨g,a,O⟩/\w.cell? ⟨g,a,O⟩=E (it .i64 z)/\z≠1):=by
 obtain⟨c,f,d,i,rfl⟩:=h;obtain⟨_,_,b,_⟩:=f.shape;simp only[zV]at b;obtain⟨rfl,rfl,rfl⟩:=b;constructor
 ·intro b;have e:c= [1]:=zn9 d (zf6 om) i (zf5 om) (by rw[b,zbY]);subst e;obtain⟨g,a,rfl,i,d⟩:=f.row sp;exact⟨rfl,g,a,rfl,by have:=d 0 sp;simpa using this⟩
 ·intro b c;obtain⟨g,a,rfl,i,d⟩:=f.row (by intro e;rw[e]at c;simp at c);obtain⟨e,rfl⟩:=zcc.1 c;rw[zbY]at b;exact⟨g,a,e,rfl,by have:=d 0 sp;simpa using this,om⟩
theorem zlZ (w:H)(x:Value)(p:Int)(q:Nat)(h:qe w x p q)(K:Nat)(a:q<10000^K)(b:K<=1000000000):
 Calls pg 190 #[x] w fun e w'=>e= .returned (G (decide (q=1)))/\Below w.heap.size w w':=by
 obtain⟨g,b,m,i,c,d,j,rfl,_,_,l,_⟩:=h.parts;have k:=zcK l a;have f:Below w.heap.size w (w.alloc (cl #[G g,V b m i,V c d j] 118)):=(zR _ _).alloc (zh _) _;have a:=nv_one (l.alloc (cl #[G g,V b m i,V c d j] 118));by_cases c:q=1
 ·have b:=zi (qH c);obtain⟨rfl,i,l,rfl,j⟩:=a.1 c;clear a k;go_enter func190,ntmps190
  go_wp2;go_ret;exact⟨jH b.out.symm,f⟩
 ·have b:=zi (ZB c);by_cases g:d=1
  ·obtain⟨i,l,_,rfl,j,i⟩:=a.2 c g;subst g;clear a k;go_enter func190,ntmps190
   go_wp2;go_ret;refine⟨jH ?_,f⟩;rw[b.out];first|rfl|simp[i]
  ·have c:(d:Int)≠1:=om;clear a;go_enter func190,ntmps190
   go_wp2;go_ret;exact⟨jH b.out.symm,f⟩
theorem zbe {x y K:Nat}(a:x<10000^K)(b:y<10000^K):x*y<10000^(K+K):=by
 rw[ZI];exact zbc a b
theorem sg_mul (p r:Int):sg (decide (p<0) != decide (r<0)) (p.natAbs*r.natAbs)=p*r:=by
 rw[<-Zx];by_cases d:p<0
 ·by_cases c:r<0
  ·have:=Int.mul_pos_of_neg_of_neg d c;simp only[d,c,zbp,bne_self_eq_false,sg,Q4,Jg];omega
  ·have:p*r<=0:=Int.mul_nonpos_of_nonpos_of_nonneg om om;simp only[d,c,zbp,zcO,sg];simp;omega
 ·by_cases c:r<0
  ·have:p*r<=0:=Int.mul_nonpos_of_nonneg_of_nonpos om om;simp only[d,c,zbp,zcO,sg];simp;omega
  ·have:=Int.mul_nonneg (a:=p) (b:=r) om om;simp only[d,c,zcO,bne_self_eq_false,sg,Q4,Jg];omega
theorem zhy (K:Nat)(hK:K+K<=100000000)(w:H)(x y:Value)(p r:Int)(q s:Nat)(h:qe w x p q)(k:qe w y r s)(T:p.natAbs<10000^K)(hr:r.natAbs<10000^K)(Z:q<10000^K)(hs:s<10000^K):
 Calls pg 105 #[x,y] w fun e w'=>∃t,e= .returned t/\qe w' t ((p*r)/(Nat.gcd (p*r).natAbs (q*s):Int)) ((q*s)/Nat.gcd (p*r).natAbs (q*s))/\Below w.heap.size w w':=by
 obtain⟨b,f,u,l,g,z,m,rfl,hv,M,hu,aj⟩:=h.parts;obtain⟨c,i,A,n,j,B,o,rfl,al,N,ak,ai⟩:=k.parts;have D:qk (((w.alloc (cl #[G b,V f u l,V g z m] 118)).alloc (cl #[G c,V i A n,V j B o] 118)).alloc (cl #[G false,V O 0 0,V O 0 0] 118)) w.heap.size (G b) (V f u l) (V g z m):=((qk.new _ _ _ _ _).alloc _).alloc _;have F:qk (((w.alloc (cl #[G b,V f u l,V g z m] 118)).alloc (cl #[G c,V i A n,V j B o] 118)).alloc (cl #[G false,V O 0 0,V O 0 0] 118)) (w.heap.size+1) (G c) (V i A n) (V j B o):=(qk.new1 _ _ _ _ _ _).alloc _;have ah:qk (((w.alloc (cl #[G b,V f u l,V g z m] 118)).alloc (cl #[G c,V i A n,V j B o] 118)).alloc (cl #[G false,V O 0 0,V O 0 0] 118)) (w.heap.size+1+1) (G false) (V O 0 0) (V O 0 0):=qk.new2 _ _ _ _ _ _ _;have S:=J4 w (cl #[G b,V f u l,V g z m] 118) (cl #[G c,V i A n,V j B o] 118) (cl #[G false,V O 0 0,V O 0 0] 118);have hZ:=zbe T hr;have hN:=zbe Z hs;have a6:=Jv.1 (jr aj ai);have HZ:=zi (sg_mul p r);have HB:=zi M.out;have a0:=zi N.out;clear M N;go_enter func105,ntmps105
 go_wp2;go_region_held (fun w'=>w'.cell? ⟨w.heap.size,0,O⟩=E (G b)/\w'.cell? ⟨w.heap.size,1,O⟩=E (V f u l)/\w'.cell? ⟨w.heap.size,2,O⟩=E (V g z m)/\w'.cell? ⟨w.heap.size+1,0,O⟩=E (G c)/\w'.cell? ⟨w.heap.size+1,1,O⟩=E (V i A n)/\w'.cell? ⟨w.heap.size+1,2,O⟩=E (V j B o)) (first|(refine⟨?_,?_,?_,?_,?_,?_⟩<;>(rw[far,far,far]<;>first|assumption|omega))|go_keep) (first|(go_at_call 183;refine(lowest_any _ _ _ _ (p.natAbs*r.natAbs) (q*s) (K+K) (a1.below d) a4 hZ hN a6 hK).mono ?_;rintro e wC ⟨_,rfl,a5,C⟩;obtain⟨b2,a2,l2,k2,a3,l3,k3,rfl,U,W,X,Y⟩:=a5.parts;have a9:=((D.drew.below a).below d).below C;obtain⟨_,_,_,_,_,_,_⟩:=a9;have ad:=((F.drew.below a).below d).below C;obtain⟨_,_,_,_,_,_,_⟩:=ad;have ae:=((ah.drew.below a).below d).below C;obtain⟨I,J,L,_,_,_,_⟩:=ae)|(go_at_call 184;refine(zb9 _ _ _ q s K (((((hu.alloc _).alloc _).alloc _).drew).below a) (((((ak.alloc _).alloc _).alloc _).drew).below a) Z hs om).mono ?_;rintro e wB ⟨_,rfl,a4,d⟩;have a8:=(D.drew.below a).below d;obtain⟨_,_,_,_,_,_,_⟩:=a8;have ab:=(F.drew.below a).below d;obtain⟨_,_,_,_,_,_,_⟩:=ab)|(go_at_call 184;refine(zb9 _ _ _ p.natAbs r.natAbs K (by exact NV.drewN (((hv.alloc _).alloc _).alloc _) 1) (by exact NV.drewN (((al.alloc _).alloc _).alloc _) 1) T hr om).mono ?_;rintro e wA ⟨_,rfl,a1,a⟩;have a7:=D.drew.below a;obtain⟨_,_,_,_,_,_,_⟩:=a7;have aa:=F.drew.below a;obtain⟨_,_,_,_,_,_,_⟩:=aa))
 have Q:=S.trans ((zcM a).mono S.size);have R:=Q.trans (d.mono Q.size);have af:=R.trans (C.mono R.size);have HE:sg (!(b == c)) (p.natAbs*r.natAbs)=p*r:=by rw[HB.out,a0.out];exact HZ.out
 rw[HE,<-Zx]at U W;rw[<-Zx]at X Y;go_wp2;exact zH (v:=ag #[G b2,V a2 l2 k2,V a3 l3 k3]) (by simp[results,results105,go_sem,I,J,L]) rfl ⟨_,rfl,zaH U W X Y I J L,
  ((af.setCell so _).setCell so _).setCell so _⟩
end Go.Proofs.YtnhfdcfnojnofaaGreatDoor.T
namespace Go.Proofs.YtnhfdcfnojnofaaGreatDoor
open Go.RowKit
def QQ (q:Nat):Value:= .func (.func 364) #[] #[pn (E ⟨q,0,O⟩)]
def ZG (q:Nat):Value:= .func (.func 366) #[] #[pn (E ⟨q,0,O⟩)]
def jF (q:Nat):Value:= .func (.func 368) #[] #[pn (E ⟨q,0,O⟩)]
def zeP (q:Nat):Value:= .func (.func 365) #[] #[pn (E ⟨q,0,O⟩)]
theorem zgB:∀args w,(callFunc 364 args).run pg w= .ok (.enter 364 args) w:=ZJ func364 kr rfl
theorem zgC:∀args w,(callFunc 366 args).run pg w= .ok (.enter 366 args) w:=ZJ func366 kr rfl
theorem zne:∀args w,(callFunc 368 args).run pg w= .ok (.enter 368 args) w:=ZJ func368 kr rfl
theorem znf:∀args w,(callFunc 365 args).run pg w= .ok (.enter 365 args) w:=ZJ func365 kr rfl
theorem Tryz.infoPlace:(Tryz.prog.info? 429).map (fun i=>(i.zero,i.size,i.bytes))=E (E (.nilFunc),1,8):=kr
structure Pls (B:Nat)(w A:H)(gpl q0:Nat)(wd:List UInt8)(qs:List Nat)(pt:Nat->Addr)(xs:List Nat)(ap:Option Addr)(kp:Nat):Prop where
 own:A.ownsRow B 429 1 (V ap (qs.length+1) kp) (qs.length+1) (QQ q0::qs.map ZG)
 box:A.cell? ⟨gpl,0,O⟩=E (V ap (qs.length+1) kp)
 fro:A.frozen? ⟨gpl,0,O⟩=false
 q0c:A.cell? ⟨q0,0,O⟩=E (gS ⟨wd.toArray⟩)
 qsc:∀j q,qs[j]? =E q->A.cell? ⟨q,0,O⟩=E (pn (E (pt j)))
 new:B<=gpl/\gpl≠q0/\B<=q0/\∀q∈qs,B<=q/\q≠gpl
 lt:∀x∈gpl::q0::(qs++xs),x<A.heap.size
 sep:∀g,(V ap (qs.length+1) kp).ownBlock=E g->∀x∈gpl::q0::(qs++xs),g≠x
 bel:Below B w A
 le:B<=w.heap.size
theorem zw.cells' {B:Nat}{w w':H}(b:zw B w w'){g:Nat}{o:Obj}(ho:w.heap[g]? =E o)(a:o.isCells=true):w'.heap[g]? =w.heap[g]?:=(b.block g o ho (.inr a)).trans ho.symm
theorem zg1 {B':Nat}{w w':H}{B e size n:Nat}{v:Value}{a:List Value}(h:w.ownsRow B e size v n a)(m:zw B' w w'):w'.ownsRow B e size v n a:=by
 obtain⟨a,f|⟨g,c,d,p,l,b,o,i,j,k⟩⟩:=h;·exact⟨a,Or.inl f⟩
 ·exact⟨a,Or.inr ⟨g,c,d,p,l,(m.cells' b rfl).trans b,o,i,j,k⟩⟩
theorem Pls.keep {C B:Nat}{w A A':H}{c f:Nat}{i:List UInt8}{g:List Nat}{e:Nat->Addr}{j:List Nat}{b:Option Addr}{d:Nat}(h:Pls B w A c f i g e j b d)(a:zw C A A')(k:B<=C):Pls B w A' c f i g e j b d:=
 ⟨zg1 h.own a,a.cell h.box,(a.frozen h.box).trans h.fro,a.cell h.q0c,fun j q b=>a.cell (h.qsc j q b),h.new,fun x b=>zv (h.lt x b) a.size,h.sep,a.below h.bel k h.le,h.le⟩
theorem Pls.alloc {B:Nat}{w A:H}{b e:Nat}{g:List UInt8}{f:List Nat}{d:Nat->Addr}{i:List Nat}{a:Option Addr}{c:Nat}(h:Pls B w A b e g f d i a c)(o:Obj):Pls B w (A.alloc o) b e g f d i a c:=h.keep (zw.alloc B _ _) (zh _)
theorem Pls.drew {B:Nat}{w A:H}{b e:Nat}{g:List UInt8}{f:List Nat}{d:Nat->Addr}{i:List Nat}{a:Option Addr}{c:Nat}(h:Pls B w A b e g f d i a c):Pls B w A.drew b e g f d i a c:=h.keep (zw.drew B _) (zh _)
theorem Pls.grow {B:Nat}{w A A':H}{b j q g cap:Nat}{e:List UInt8}{a:List Nat}{c:Nat->Addr}{o:List Nat}{f:Option Addr}{i:Nat}(h:Pls B w A b j e a c o f i)
 (u:A.cell? ⟨q,0,O⟩=E (pn (E (c a.length)))) (W:B<=q) (v:q≠b) (y:∀g,(V f (a.length+1) i).ownBlock=E g->g≠q)
 (U:A'.ownsRow B 429 1 (V (E ⟨g,0,O⟩) (a.length+1+1) cap) (a.length+1+1) (QQ j::a.map ZG ++ [ZG q])) (d:A.grownBy A' (V f (a.length+1) i).ownBlock) (t:(V f (a.length+1) i).ownBlock=E g\/g=A.heap.size):
 Pls B w (A'.setCell ⟨b,0,O⟩ (V (E ⟨g,0,O⟩) (a.length+1+1) cap)) b j e (a ++ [q]) c o (E ⟨g,0,O⟩) cap/\
  Wr (fun x=>x=b\/(V f (a.length+1) i).ownBlock=E x) A (A'.setCell ⟨b,0,O⟩ (V (E ⟨g,0,O⟩) (a.length+1+1) cap)):=by
 have c:q<A.heap.size:=zN u;have k:Wr (fun x=>(V f (a.length+1) i).ownBlock=E x) A A':=⟨d.os,d.tape,d.output,d.size,fun l s e=>d.block l s (fun r=>e r.symm)⟩;have n:∀{x:Nat},x∈b::j::(a++o)->¬(V f (a.length+1) i).ownBlock=E x:=fun c e=>h.sep _ e _ c rfl
 have M:=k.cell (p:=⟨b,0,O⟩) (n sp) h.box;have m:∀x∈b::j::(a++o),g≠x:=by
  intro x c;rcases t with e|e
  ·exact h.sep g e x c
  ·have:=h.lt x c;omega
 have Q:g≠q:=by
  rcases t with e|e
  ·exact y g e
  ·omega
 have N:=m b sp;have t:(a ++ [q]).length+1=a.length+1+1:=sp;have r:QQ j::(a ++ [q]).map ZG=QQ j::a.map ZG ++ [ZG q]:=sp;have K:Below B w A':=⟨d.os.trans h.bel.os,d.tape.trans h.bel.tape,d.output.trans h.bel.output,zL h.bel.size d.size,fun l s=>(d.block l (by have:=h.bel.size;have:=h.le;omega) (fun e=>by have:=(h.own.lt l e.symm).1;omega)).trans (h.bel.block l s)⟩;refine⟨⟨?_,?_,?_,?_,?_,?_,?_,?_,?_,h.le⟩,?_⟩
 ·rw[t,r];obtain⟨C,D|⟨z,r,s,o,L,R,S,F,I,J⟩⟩:=U;·exact absurd D.1 sp
  ·refine⟨C,Or.inr ⟨z,r,s,o,L,(zK _ _ _ _ ?_).trans R,S,F,I,J⟩⟩;simp only[zV,z7,je]at o;rw[<-o.1.1];exact N
 ·rw[t];exact zu _ _ _ M
 ·have:=(k.block b (h.lt b sp) (n sp));have o:A'.frozen? ⟨b,0,O⟩=A.frozen? ⟨b,0,O⟩:=zt (w:=A) this;simpa using o.trans h.fro
 ·rw[qf _ _ _ _ (by simpa using h.new.2.1)];exact k.cell (p:=⟨j,0,O⟩) (n sp) h.q0c
 ·intro r o j;by_cases s:r<a.length
  ·rw[zM s]at j;have s:=qJ j;rw[qf _ _ _ _ (by simpa using Qi (h.new.2.2.2 o s).2)];exact k.cell (p:=⟨o,0,O⟩) (n (by simp[s])) (h.qsc r o j)
  ·have n:r=a.length:=by
    have:=(zn.1 j).1;simp at this;omega
   subst n;rw[zJ (zh _),Zy]at j;simp at j;subst j;rw[qf _ _ _ _ (by simpa using Qi v)];exact k.cell (p:=⟨q,0,O⟩) (fun e=>y _ e rfl) u
 ·refine⟨h.new.1,h.new.2.1,h.new.2.2.1,fun x c=>?_⟩;rcases Zs.1 c with e|e
  ·exact h.new.2.2.2 x e
  ·rw[Qo.1 e];exact⟨W,v⟩
 ·intro x c;have j:=d.size;simp only[qw,Zs,jI]at c;have:x<A.heap.size:=by
   rcases c with e|e|e|e|e
   ·exact h.lt x (by simp[e])
   ·exact h.lt x (by simp[e])
   ·exact h.lt x (by simp[e])
   ·rcases e with e|e
    ·omega
    ·cases e
   ·exact h.lt x (by simp[e])
  simp;omega
 ·intro d j x c;have:d=g:=by simpa[Value.ownBlock]using j.symm
  subst this;simp only[qw,Zs,jI]at c;rcases c with e|e|e|e|e
  ·exact m x (by simp[e])
  ·exact m x (by simp[e])
  ·exact m x (by simp[e])
  ·rcases e with e|e
   ·rw[e];exact Q
   ·cases e
  ·exact m x (by simp[e])
 ·exact K.setCell (p:=⟨b,0,O⟩) h.new.1 _
 ·exact Wr.setCell (T:=fun x=>x=b\/(V f (a.length+1) i).ownBlock=E x) (k.mono (fun l e=>Or.inr e)) (p:=⟨b,0,O⟩) (Or.inl rfl) _
theorem Pls.alloc_avoid {B:Nat}{w A:H}{b e:Nat}{g:List UInt8}{f:List Nat}{d:Nat->Addr}{i:List Nat}{a:Option Addr}{c:Nat}(h:Pls B w A b e g f d i a c)(o:Obj):Pls B w (A.alloc o) b e g f d (A.heap.size::i) a c:=by
 have a:=h.alloc o;refine⟨a.own,a.box,a.fro,a.q0c,a.qsc,a.new,fun x c=>?_,fun g b x c=>?_,a.bel,a.le⟩
 ·simp only[qw,Zs]at c;rcases c with e|e|e|e|e
  ·exact a.lt x (by simp[e])
  ·exact a.lt x (by simp[e])
  ·exact a.lt x (by simp[e])
  ·rw[e];simp
  ·exact a.lt x (by simp[e])
 ·simp only[qw,Zs]at c;rcases c with e|e|e|e|e
  ·exact a.sep g b x (by simp[e])
  ·exact a.sep g b x (by simp[e])
  ·exact a.sep g b x (by simp[e])
  ·have:=(h.own.lt g b).2;omega
  ·exact a.sep g b x (by simp[e])
theorem Pls.avoid {B:Nat}{w A:H}{d f:Nat}{i:List UInt8}{c:List Nat}{e:Nat->Addr}{j:List Nat}{a:Option Addr}{b:Nat}(h:Pls B w A d f i c e j a b)(y:Nat)(l:y<A.heap.size)(k:∀g,(V a (c.length+1) b).ownBlock=E g->g≠y):Pls B w A d f i c e (y::j) a b:=by
 refine⟨h.own,h.box,h.fro,h.q0c,h.qsc,h.new,fun x b=>?_,fun g a x b=>?_,h.bel,h.le⟩
 ·simp only[qw,Zs]at b;rcases b with e|e|e|e|e
  ·exact h.lt x (by simp[e])
  ·exact h.lt x (by simp[e])
  ·exact h.lt x (by simp[e])
  ·rw[e];exact l
  ·exact h.lt x (by simp[e])
 ·simp only[qw,Zs]at b;rcases b with e|e|e|e|e
  ·exact h.sep g a x (by simp[e])
  ·exact h.sep g a x (by simp[e])
  ·exact h.sep g a x (by simp[e])
  ·rw[e];exact k g a
  ·exact h.sep g a x (by simp[e])
theorem Pls.start (w W:H)(d:Below w.heap.size w W)(a:List UInt8)(b:Nat->Addr):
 Pls w.heap.size w (((W.alloc (cl #[gS ⟨a.toArray⟩] 9)).alloc (cl #[QQ W.heap.size] 429)).alloc (cl #[V (E ⟨W.heap.size+1,0,O⟩) 1 1] 433))
  (W.heap.size+1+1) W.heap.size a [] b [] (E ⟨W.heap.size+1,0,O⟩) 1:=by
 have e:=d.size;refine⟨⟨rfl,Or.inr ⟨W.heap.size+1,1,#[QQ W.heap.size],rfl,om,?_,zh _,mo,rfl,rfl⟩⟩,?_,?_,?_,fun j q b=>by simp at b,⟨om,om,e,fun q b=>by simp at b⟩,fun x b=>?_,fun g f x b=>?_,?_,zh _⟩
 ·have c:=qq (W.alloc (cl #[gS ⟨a.toArray⟩] 9)) (cl #[QQ W.heap.size] 429);rw[qx]at c;exact(zI _ _ _ sp).trans c
 ·have:=(Qp ((W.alloc (cl #[gS ⟨a.toArray⟩] 9)).alloc (cl #[QQ W.heap.size] 429)) 433 (V (E ⟨W.heap.size+1,0,O⟩) 1 1)).cell;rwa [qx,qx]at this
 ·have:=(Qp ((W.alloc (cl #[gS ⟨a.toArray⟩] 9)).alloc (cl #[QQ W.heap.size] 429)) 433 (V (E ⟨W.heap.size+1,0,O⟩) 1 1)).frozen;rwa [qx,qx]at this
 ·exact(((Qp W 9 (gS ⟨a.toArray⟩)).alloc _).alloc _).cell
 ·simp only[qw,Q1,Zi,QF]at b;simp;omega
 ·simp[Value.ownBlock]at f;simp only[qw,Q1,Zi,QF]at b;omega
 ·exact(((d.alloc e _).alloc so _).alloc so _)
theorem Pls.row {B:Nat}{w A:H}{e d:Nat}{j:List UInt8}{b:List Nat}{f:Nat->Addr}{k:List Nat}{c:Option Addr}{a:Nat}(h:Pls B w A e d j b f k c a):
 ∃g,c=E ⟨g,0,O⟩/\B<=g/\g<A.heap.size/\b.length+1<=a/\a<=9223372036854775807/\∀i fv,(QQ d::b.map ZG)[i]? =E fv->A.cell? ⟨g,i,O⟩=E fv:=by
 have e:=h.own;have f:=h.own.lt;obtain⟨_,b|⟨g,_,_,a,d,_,j,c,_,_⟩⟩:=h.own;·exact absurd b.1 sp
 ·simp only[zV]at a;obtain⟨rfl,_,rfl⟩:=a;refine⟨g,rfl,d,(f g rfl).2,j,by unfold maxLen at c;omega,fun i fv a=>?_⟩;have:=e.cells (g:=g) rfl i fv a;have e:(⟨g,0,O⟩:Addr).add i=⟨g,i,O⟩:=by
   unfold Addr.add;split
   ·rename_i a;rw[a]
   ·simp
  rw[e]at this;exact this
theorem J7 {F:Fence}{n:Nat}{P:Program}(w:H){p:Array Oper}{o:Oper}{a:Act}{K:Act->H->Prop}{Q:Exit->Act->H->Prop}{q:Prop}(r:o.guard=O)(s x:Operand)(t:TypeId)
 (ho:o.op= .call { callee:= .builtin .append,args:=#[s,x],argTypes:=#[t,t] })
 (base:Nat) (e:TypeId) (i:TypeInfo) (z:Value) (size bytes:Nat) (U:P.underlying t=E (.slice e)) (J:P.info? e=E i) (X:i.zero=E z)
 (S:i.size=size) (D:i.bytes=bytes) (Y:z.cells.size=size) (T:0<size)
 (v:Value) (m:Nat) (l:List Value) (hs:a.eval s=v) (R:w.ownsRow base e size v m l)
 (f:Addr) (k c:Nat) (b:List Value) (W:a.eval x=V (E f) k c) (L:b.length=k*size) (N:∀j u,b[j]? =E u->w.cell? (f.add j)=E u) (h1:∀u∈b,u.oneCell'=true)
 (M:0<k) (A:m+k<=maxLen) (I:(m+k)*bytes<=140737488355328) (C:base<=w.heap.size) (d:Nat) (B:w.heap.size=d)
 (h:∀g cap w',w'.ownsRow base e size (V (E ⟨g,0,O⟩) (m+k) cap) (m+k) (l++b)->w.grownBy w' v.ownBlock->(v.ownBlock=E g\/g=d)->g<w'.heap.size->K (a.put o.dst (V (E ⟨g,0,O⟩) (m+k) cap)) w'):
 if Region.wanted o (yielded p a.tmps)=true then Oper.wpIn F n P o a w K Q else q:=by
 have q:Region.wanted o (yielded p a.tmps)=true:=by simp[Region.wanted,r]
 rw[z8 q];obtain⟨g,cap,w',Q,p,q,r,y⟩:=run_append_lies (P:=P) w t o.type base e i z size bytes U J X S D Y T v m l R f k c b L N h1 M A I C d B;unfold Oper.wpIn;refine⟨?_,?_⟩;·simp[Oper.about,ho,resolve,Target.leads,Sem.run_pure]
 ·rw[Oper.semAt_plain F _ _ (by rw[ho];intro c b;cases b)];simp[execOp,ho,resolve,invoke,builtin,hs,W,Q,Result.andThen];exact h g cap w' p q r y
theorem JF {F:Fence}{n:Nat}(A:H){D:Array Oper}{o:Oper}{a:Act}{K:Act->H->Prop}{Q:Exit->Act->H->Prop}{p:Prop}(t:o.guard=O)(s x:Operand)
 (ho:o.op= .call { callee:= .builtin .append,args:=#[s,x],argTypes:=#[433,433] })
 {B:Nat} {w:H} {c k q:Nat} {l:List UInt8} {d:List Nat} {f:Nat->Addr} {m:List Nat} {i:Option Addr} {j b:Nat} (e:Pls B w A c k l d f m i j) (I:d.length<=900)
 (hs:a.eval s=V i (d.length+1) j) (C:a.eval x=V (E ⟨b,0,O⟩) 1 1) (r:A.cell? ⟨b,0,O⟩=E (ZG q))
 (u:A.cell? ⟨q,0,O⟩=E (pn (E (f d.length)))) (v:B<=q) (y:q≠c) (z:∀g,(V i (d.length+1) j).ownBlock=E g->g≠q)
 (h:∀g cap A',Pls B w (A'.setCell ⟨c,0,O⟩ (V (E ⟨g,0,O⟩) (d.length+1+1) cap)) c k l (d ++ [q]) f m (E ⟨g,0,O⟩) cap->
  Wr (fun x=>x=c\/(V i (d.length+1) j).ownBlock=E x) A (A'.setCell ⟨c,0,O⟩ (V (E ⟨g,0,O⟩) (d.length+1+1) cap))->
  ((V i (d.length+1) j).ownBlock=E g\/A.heap.size<=g)->
  A'.cell? ⟨c,0,O⟩=E (V i (d.length+1) j)->A'.frozen? ⟨c,0,O⟩=false->K (a.put o.dst (V (E ⟨g,0,O⟩) (d.length+1+1) cap)) A'):
 if Region.wanted o (yielded D a.tmps)=true then Oper.wpIn F n pg o a A K Q else p:=by
 obtain⟨p,f,k,l,m⟩:=qL Tryz.infoPlace;refine J7 A t s x 433 ho B 429 p .nilFunc 1 8 underlying433 f k l m rfl dc _ _ _ hs e.own ⟨b,0,O⟩ 1 1 [ZG q] C rfl ?_ (fun l f=>by simp at f;subst f;rfl) om mo om (by have:=e.bel.size;have:=e.le;omega) A.heap.size rfl ?_
 ·intro k l f;match k,f with
  |0,f=>simp at f;subst f;simpa[Addr.add]using r
  |k+1,f=>simp at f
 ·intro g cap A' l f k m;obtain⟨m,p⟩:=e.grow u v y z l f k;have l:¬(V i (d.length+1) j).ownBlock=E c:=fun d=>e.sep _ d c sp rfl
  refine h g cap A' m p (k.imp id (fun d=>om)) ?_ ?_;·exact(f.cell_far ⟨c,0,O⟩ (e.lt c sp) (fun d=>l d.symm)).trans e.box
  ·exact(f.frozen_far ⟨c,0,O⟩ (e.lt c sp) (fun d=>l d.symm)).trans e.fro
end Go.Proofs.YtnhfdcfnojnofaaGreatDoor
