import Derived.Test.YtnhfdcfnojnofaaGreatDoorAds1Z27
import Derived.Test.YtnhfdcfnojnofaaGreatDoorAds1Z30
open Option renaming none->O,some->E
open Go.Value renaming slice->V,bool->G,int->it,agg->ag
open Go.Obj renaming cells->cl
open Go renaming World->H
open Go.Proofs.Tryz renaming prog->pg
open Go.Proofs.Tryz
set_option linter.unusedSimpArgs false
set_option linter.unusedVariables false
set_option maxHeartbeats 2000000
set_option maxRecDepth 100000
namespace Go.Proofs.YtnhfdcfnojnofaaGreatDoor
open Go.RowKit
theorem Whs.set_int {w:H}{b g:Nat}{zs:List Int}{z z':Int}(h:Whs w b zs)(c:w.cell? ⟨g,0,O⟩=E (it .i64 z)):Whs (w.setCell ⟨g,0,O⟩ (it .i64 z')) b zs:=by
 by_cases e:g=b
 ·subst e;refine⟨h.1.setCell c sp,fun j d=>?_⟩;obtain⟨_,_,_,_,d,_⟩:=h.2 0 om;rw[Z7,c]at d;cases d
 ·exact h.setCell (a:=⟨g,0,O⟩) c sp e _
theorem DQ.set_int {w:H}{b g:Nat}{p:qo}{a c:Value}{z z':Int}(h:DQ w b p a c)(f:¬Own b a c g)(i:w.cell? ⟨g,0,O⟩=E (it .i64 z)):DQ (w.setCell ⟨g,0,O⟩ (it .i64 z')) b p a c:=by
 have c:b≠g:=fun e=>f (Or.inl e.symm)
 have same:∀k,k≠g->(w.setCell ⟨g,0,O⟩ (it .i64 z')).heap[k]? =w.heap[k]?:=fun k a=>zK _ _ _ _ a
 refine⟨h.box.same (same b c) sp,h.nodP.same (same b c),?_,fun k a=>⟨(h.nodR k a).1.same (same k (fun e=>f (e▸Or.inr (Or.inr a)))),(h.nodR k a).2⟩,?_⟩
 ·rcases h.cols with b|⟨j,m,b,c,d,l⟩
  ·exact Or.inl b
  ·exact Or.inr ⟨j,m,b,c,d.set_int i,l⟩
 ·obtain⟨j,b,c,d⟩:=h.rows;refine⟨j,b,zd4 c (fun k a=>same k (fun e=>f (e▸Or.inr (Or.inr a)))),fun c r row a b=>?_⟩;obtain⟨e,f,j,k,l⟩:=d c r row a b;exact⟨e,f,j.set_int i,k,l.setCell i sp _⟩
theorem Whs.set_other {w:H}{b g j:Nat}{zs:List Int}{y c v:Value}(h:Whs w b zs)(e:w.cell? ⟨g,j,O⟩=E y)(k:∀n,y≠it .u32 n)(l:∀n,v≠it .u32 n)(f:w.cell? ⟨g,0,O⟩=E c)(i:∀x,c≠G x):Whs (w.setCell ⟨g,j,O⟩ v) b zs:=by
 by_cases d:g=b
 ·subst d;refine⟨h.1.setCell e l,fun c c=>?_⟩;obtain⟨x,_,_,_,c,_⟩:=h.2 0 om;rw[Z7,f]at c;injection c with c
  exact absurd c (i x)
 ·exact h.setCell (a:=⟨g,j,O⟩) e k d _
theorem DQ.set_other {w:H}{b g j:Nat}{p:qo}{a c y d v:Value}(h:DQ w b p a c)(f:¬Own b a c g)(l:w.cell? ⟨g,j,O⟩=E y)(i:∀n,y≠it .u32 n)(q:∀n,v≠it .u32 n)(m:w.cell? ⟨g,0,O⟩=E d)(o:∀x,d≠G x):DQ (w.setCell ⟨g,j,O⟩ v) b p a c:=by
 have c:b≠g:=fun e=>f (Or.inl e.symm)
 have same:∀k,k≠g->(w.setCell ⟨g,j,O⟩ v).heap[k]? =w.heap[k]?:=fun k a=>zK _ _ _ _ a
 refine⟨h.box.same (same b c) sp,h.nodP.same (same b c),?_,fun k a=>⟨(h.nodR k a).1.same (same k (fun e=>f (e▸Or.inr (Or.inr a)))),(h.nodR k a).2⟩,?_⟩
 ·rcases h.cols with b|⟨r,t,b,c,d,s⟩
  ·exact Or.inl b
  ·exact Or.inr ⟨r,t,b,c,d.set_other l i q m o,s⟩
 ·obtain⟨r,b,c,d⟩:=h.rows;refine⟨r,b,zd4 c (fun k a=>same k (fun e=>f (e▸Or.inr (Or.inr a)))),fun c t row a b=>?_⟩;obtain⟨e,f,k,r,s⟩:=d c t row a b;exact⟨e,f,k.set_other l i q m o,r,s.setCell l i _⟩
theorem DQ.lt {w:H}{a:Nat}{p:qo}{b c:Value}(h:DQ w a p b c):∀k,Own a b c k->k<w.heap.size:=by
 intro k a;rcases a with e|e|e
 ·rw[e];exact h.box.2.2.2.2
 ·rcases h.cols with ⟨_,a⟩|⟨_,_,a,_,b,_⟩
  ·rw[a]at e;cases e
  ·rw[a]at e;simp[Value.ownBlock]at e;rw[<-e];exact b.lt
 ·obtain⟨_,_,a,_⟩:=h.rows;exact(a.lt k e).2
theorem zhd {a:List (List UInt8×Bool)}:∀{j k:Nat} {v:Array Value},(JS j a)[k]? =E v->∃x last,a[k]? =E x/\v=zf8 (j+k) x last:=by
 induction a with
 |nil=>intro j k v h;simp[JS]at h
 |cons y r c=>
  intro j k v h;cases k with
  |zero=>
   simp[JS]at h;exact⟨y,_,sp,h.symm⟩
  |succ k=>
   rw[JS,Jt]at h;obtain⟨x,last,a,b⟩:=c h;exact⟨x,last,by simpa using a,by rw[b,show j+1+k=j+(k+1)by omega]⟩
theorem zfR {a:List (List UInt8×Bool)}{i:Nat}{p:qo}{y:List UInt8×Bool}(c:a[i]? =E y):jd i p (a.drop i)=if y.2=false then .error (i+1)else match Q2 i p (qg y.1)with|.none=> .error (i+1)|some q=>jd (i+1) q (a.drop (i+1)):=by
 obtain⟨b,a⟩:=zn.1 c;rw[Zn b,a,jd];rfl
theorem znM (s:List UInt8)(k:Nat)(x:List UInt8×Bool)(h:(qE s)[k]? =E x):x.1.length<=s.length:=(zbd s.length s).2 x (qJ h)
attribute [local go_sem] qm qW ZR
def RdI (w:H)(LL:List (List UInt8×Bool))(k:Nat)(p:qo)(vC vR:Value)(A:H):Prop:=
 DQ A (w.heap.size+1+1) p vC vR/\ji k p/\jd 0 qo.none LL=jd k p (LL.drop k)/\A.cell? ⟨w.heap.size+1+1+1,0,O⟩=E (it .i64 ((k:Int)+1))/\A.frozen? ⟨w.heap.size+1+1+1,0,O⟩=false/\
  qX A w.heap.size (V O 0 0) (V O 0 0)/\A.cell? ⟨w.heap.size+1,0,O⟩=E (it .i64 0)/\A.frozen? ⟨w.heap.size+1,0,O⟩=false/\Below w.heap.size w A/\(∀x,Own (w.heap.size+1+1) vC vR x->x=w.heap.size+1+1\/w.heap.size+1+1+1+1<x)/\w.heap.size+1+1+1+1<A.heap.size
theorem RdI.keep {C:Nat}{w A A':H}{b:List (List UInt8×Bool)}{k:Nat}{p:qo}{c d:Value}(h:RdI w b k p c d A)(a:zw C A A')(o:w.heap.size<=C):RdI w b k p c d A':=by
 obtain⟨d,g,i,b,j,l,c,m,n,e,f⟩:=h;exact⟨d.keep a,g,i,a.cell b,(a.frozen b).trans j,l.keep a,a.cell c,(a.frozen c).trans m,a.below n o (zh _),e,zv f a.size⟩
theorem RdI.step {w A2 b:H}{c:List (List UInt8×Bool)}{k:Nat}{p q:qo}{d e f g:Value}{y:List UInt8×Bool}(h:RdI w c k p d e A2)(a:Wr (Own (w.heap.size+1+1) d e) A2 b)(A:DQ b (w.heap.size+1+1) q f g)(ho:∀x,Own (w.heap.size+1+1) f g x->Own (w.heap.size+1+1) d e x\/A2.heap.size<=x)
 (B:c[k]? =E y) (C:y.2=true) (r:Q2 k p (qg y.1)=E q):
 b.cell? ⟨w.heap.size+1+1+1,0,O⟩=E (it .i64 ((k:Int)+1))/\b.frozen? ⟨w.heap.size+1+1+1,0,O⟩=false/\Hid (RdI w c (k+1) q f g (b.setCell ⟨w.heap.size+1+1+1,0,O⟩ (it .i64 ((k:Int)+1+1)))):=by
 obtain⟨_,u,v,j,t,m,n,z,o,i,_⟩:=h;have c:w.heap.size+1+1+1<A2.heap.size:=zN j;have c:∀x,x<=w.heap.size+1+1+1+1->x≠w.heap.size+1+1->¬Own (w.heap.size+1+1) d e x:=fun x s d e=>by rcases i x e with e|e<;>omega
 have d:=a.cell (p:=⟨w.heap.size+1+1+1,0,O⟩) (c _ sp sp) j;have l:=(a.frozen (p:=⟨w.heap.size+1+1+1,0,O⟩) (c _ sp sp) (zN j)).trans t;have j:=m.same (a.block _ m.2.2.2.2 (c _ om om)) a.size;have m:=a.cell (p:=⟨w.heap.size+1,0,O⟩) (c _ sp sp) n;have t:=(a.frozen (p:=⟨w.heap.size+1,0,O⟩) (c _ sp sp) (zN n)).trans z;have c:∀x,Own (w.heap.size+1+1) f g x->x=w.heap.size+1+1\/w.heap.size+1+1+1+1<x:=fun x s=>by
  rcases ho x s with e|e
  ·exact i x e
  ·omega
 refine⟨d,l,A.set_int (fun e=>by rcases c _ e with e|e<;>omega) d,u.step r,?_,?_,by simpa using l,?_,?_,by simpa using t,?_,c,by have:=a.size;simp;omega⟩;·rw[v,zfR B,zW (by rw[C];simp),r]
 ·rw[zu _ _ _ d];simp
 ·exact j.same (zK _ _ _ _ (by simp<;>omega)) sp
 ·rw[qf _ _ _ _ (by simp<;>omega)];exact m
 ·have c:=a.below o.size (fun x e=>by rcases i x e with e|e<;>omega);exact(o.trans c).setCell (p:=⟨w.heap.size+1+1+1,0,O⟩) so _
end Go.Proofs.YtnhfdcfnojnofaaGreatDoor
namespace Go.Proofs.YtnhfdcfnojnofaaGreatDoor.T
open Go.RowKit
theorem Qj.len {w:H}{b:Option Addr}{a c:Nat}{zs:List (Int×Nat)}(h:Qj w (V b a c) zs):a=zs.length:=by
 obtain⟨_,b,_,a⟩:=h;rcases a with ⟨a,rfl⟩|⟨_,_,_,a,_⟩
 ·simp only[zV]at a;simp at b;omega
 ·simp only[zV]at a;omega
theorem zjr (w:H)(b:Option Addr)(R c:Nat)(t:Tri)(zs:List (Int×Nat))(v:Qj w (V b R c) zs)(hl:zs.length<=1000)(K:Nat)(hK:K<=1000000000)(hz:∀z∈zs,z.2<10000^K):
 Calls pg 198 #[ag #[V b R c,G t.b,t.up,t.down]] w fun e w'=>e= .returned (G (zs.all fun a=>decide (a.2=1)))/\Below w.heap.size w w':=by
 obtain⟨y,⟨D,F,I⟩,A,B,C⟩:=t;simp only[Tri.up,Tri.down];obtain rfl:=v.len;have J:Ext w (w.alloc (cl #[V b zs.length c,G y,V D F I,V A B C] 308)):=(Ext.refl w).alloc _;have p:=c_ 0 (zq w (cl #[V b zs.length c,G y,V D F I,V A B C] 308));obtain⟨h,s⟩:∃h,(zs.all fun a=>decide (a.2=1))=h:=⟨_,rfl⟩;have L:=zi s;rw[s];have HV:=zi v;have HZ:=zi hz;clear s v hz;go_enter func198,ntmps198
 go_wp2_with fail
 generalize w.alloc (cl #[V b zs.length c,G y,V D F I,V A B C] 308)=w1 at *;generalize a4:w.heap.size=g1 at *;have a0:=zi p;clear p;go_loopw [3] (fun x wr=>∃j:Nat,x=it .i64 (j:Nat)/\j<=zs.length/\Hid (((zs.take j).all fun a=>decide (a.2=1))=true)/\Ext w1 wr) (fun x _=>zs.length-(intOf x).toNat)
 case atStart=>exact⟨0,rfl,om,rfl,Ext.refl _⟩
 case round=>
  obtain⟨j,rfl,_,Y,f⟩:=hrel;have p:=f.cell a0.out;have l:=J.trans f;by_cases i:j<zs.length
  ·obtain⟨_,q,r,rfl,_,X⟩:=HV.out.at3 om;have a5:(j:Int)<(zs.length:Int):=om;obtain⟨tg,Z,k0,k1,k2⟩:=X j zs[j] (zj i);have a3:=HZ.out _ (zZ i);have o:Hid (((zs.take (j+1)).all fun a=>decide (a.2=1))=decide (zs[j].2=1)):=by rw[Hid,Zh i,Jj,Y.out];simp
   have n:Hid (zs[j].2≠1->(zs.all fun a=>decide (a.2=1))=false):=by
    intro a2;rw[QT];exact⟨zs[j],zZ i,by simpa using a2⟩
   obtain⟨M,⟨S,T,U⟩,N,P,Q⟩:=tg;have a6:wr.cell? ⟨q,r+j*3,O⟩=E (G M):=l.cell k0;have a7:wr.cell? ⟨q,r+j*3+1,O⟩=E (V S T U):=l.cell k1;have a8:wr.cell? ⟨q,r+j*3+2,O⟩=E (V N P Q):=l.cell k2;generalize zs[j]=z at *;have g:=zi (zlZ wr (ag #[G M,V S T U,V N P Q]) z.1 z.2 (Z.below l) K a3 hK);clear X k0 k1 k2 Z;by_cases k:z.2=1
   ·have a1:Hid (((zs.take (j+1)).all fun a=>decide (a.2=1))=true):=by rw[Hid,o.out];simpa using k
    have d:decide (z.2=1)=true:=by simpa using k
    rw[d]at g;clear o n d;go_wp2_with fail
    refine g.out.mono ?_;rintro e w2 ⟨rfl,u⟩;go_wp2_with fail
    go_roundw
    case rel=>exact⟨j+1,by go_num,om,a1,f.trans (Ext.of u)⟩
    case measure=>simp[intOf];omega
   ·have m:Hid (h=false):=by rw[Hid,<-L.out];exact n.out k
    have d:decide (z.2=1)=false:=by simpa using k
    rw[d]at g;clear o n d;go_wp2_with fail
    refine g.out.mono ?_;rintro e w2 ⟨rfl,u⟩;go_wp2_with fail
    go_ret;exact⟨by rw[m.out];rfl,J.trans (f.trans (Ext.of u))⟩
  ·obtain rfl:j=zs.length:=om;have m:Hid (h=true):=by
    have W:=Y.out;rw[Zw]at W;rw[Hid,<-L.out];exact W
   go_wp2_with fail
   go_ret;exact⟨by rw[m.out];rfl,J.trans f⟩
end Go.Proofs.YtnhfdcfnojnofaaGreatDoor.T
