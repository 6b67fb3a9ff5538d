import Derived.Test.YtnhokjllhmbaeaaGreatDoorJoi1Z20
open Option renaming none->O
open Go.Value renaming slice->V,bool->G,string->gS,int->it,agg->ag
open Go.Obj renaming cells->cl
open Go renaming World->H
open Go.Proofs.Tryz renaming prog->pg
open Go.Proofs.Tryz
open Go.Ending renaming returned->Xa
open Go.IntKind renaming i64->Xb
set_option linter.unusedSimpArgs false
set_option linter.unusedVariables false
set_option maxHeartbeats 4000000
set_option maxRecDepth 100000
namespace Go.Proofs.YtnhokjllhmbaeaaGreatDoor
open Go.RowKit
theorem zsg {mx lo i:List Int}{g:List (List Int)}{j rs:List Int}(f:zai mx lo i g j rs){cuts pivots:Nat}(q:20000<=cuts)(p:10000<=pivots){B:Nat}{v0 v1 v2 v3 v4:Value}{w:H}(h:SolQ B mx (zbF (QA mx lo i g j rs) cuts pivots) (Xa (ag #[v0,v1,v2,v3,v4])) w):
 ∃(kind:Int) (pts:List ByteArray) (val log:ByteArray) (n:Nat) (a:Option Addr) (l c:Nat),v0=it Xb kind/\v1=V a l c/\v2=gS val/\v3=it Xb (n:Int)/\v4=gS log/\zeX w v1 pts/\pts.length<=1000/\∀b,za8 mx lo i g j rs (8^mx.length) b->IsV mx kind pts val b:=by
 have r:=zjE f;have x:=f.n3;cases hs:zbF (QA mx lo i g j rs) cuts pivots using Xu with
 |gr k e=>
  rw[hs]at h;obtain⟨⟨a,l,c⟩,d,m⟩:=h;simp only[Ending.returned.injEq,zdU,Array.mk.injEq,za5,zel]at d;obtain⟨rfl,rfl,rfl,rfl,rfl⟩:=d;have s:=((zik r cuts pivots).1 k e hs).1;refine⟨1,(ptS k).map zT,_,_,e.length,a,l,c,rfl,rfl,rfl,rfl,rfl,zoe m.list,?_,fun b o=>?_⟩
  ·rw[zm];have:(ptS k).length=mx.length:=s.1;omega
  ·rw[(zjF f o q p).1 k e hs];exact⟨rfl,rfl,rfl⟩
 |no k v e=>
  rw[hs]at h;have d:Ending.returned (ag #[v0,v1,v2,v3,v4])=_:=h;simp only[Ending.returned.injEq,zdU,Array.mk.injEq,za5,zel]at d;obtain⟨rfl,rfl,rfl,rfl,rfl⟩:=d;refine⟨2,[],_,_,e.length,O,0,0,rfl,rfl,rfl,rfl,rfl,⟨O,0,rfl,fun h=>by simp at h⟩,sp,fun b o=>?_⟩;rw[(zjF f o q p).2.1 k v e hs];exact⟨rfl,rfl,rfl⟩
 |li u=>
  exfalso
  have d:=zm9 f;have m:min cuts 20000=20000:=om;exact zgm r p (fun t=>by rw[m];exact d t) u hs
theorem zll (J:ByteArray)(w:H)(hs:J.size<=9223372036854775807)(F:Tab w):
 Calls pg 3 #[gS J] w fun e w'=>e=Xa (G true)/\Below w.heap.size w w':=by
 have a9:=zf (zmT J w hs);clear hs;go_enter func3,ntmps3
 go_wp2_with fail
 refine a9.out.mono ?_;rintro e f ⟨u,t,s,r,x,v,m,k,i,g,q,p,rfl,b,d,P⟩;have y:Ext w f:=Xf P;obtain⟨I,L⟩:=new1 f (cl #[u,t,s,r,x,v] 25);have N:=zf (zjL _ u t s r x v m k i g q p (b.ext L) d (F.below (y.trans L)));have M:=zf (fun W (h:Ext w W)=>zpN (ze4 (QA m k i g q p)) _ (zmX d) W (zh _) (F.below h));have a7:=zf (fun W (h:Ext f W) kind vP pts val A B C=>zoc W u t s r x v m k i g q p (b.ext h) d (F.below (y.trans h)) kind vP pts val A B C);have aa:=zf (fun a0 W v0 v1 v2 v3 v4 ab=>zsg d (B:=a0) (cuts:=1099511627776) (pivots:=1099511627776) dc dc (v0:=v0) (v1:=v1) (v2:=v2) (v3:=v3) (v4:=v4) (w:=W) ab);obtain⟨tx,htx⟩:∃tx,(⟨(ze4 (QA m k i g q p)).toArray⟩:ByteArray)=tx:=⟨_,rfl⟩;rw[htx]at N M;have ae:(∃a l c,u=V a l c)/\(∃a l c,t=V a l c)/\(∃a l c,s=V a l c)/\(∃a l c,r=V a l c)/\(∃a l c,x=V a l c)/\(∃a l c,v=V a l c):=by
  obtain⟨a1,c1,A,-⟩:=b.m;obtain⟨a2,c2,B,-⟩:=b.l;obtain⟨a3,c3,C,-⟩:=b.h;obtain⟨a4,c4,h4,-⟩:=b.g;obtain⟨a5,c5,h5,-⟩:=b.s;obtain⟨a6,c6,h6,-⟩:=b.r;exact⟨⟨_,_,_,A⟩,⟨_,_,_,B⟩,⟨_,_,_,C⟩,⟨_,_,_,h4⟩,⟨_,_,_,h5⟩,⟨_,_,_,h6⟩⟩
 obtain⟨⟨a1,_,c1,rfl⟩,⟨a2,_,c2,rfl⟩,⟨a3,_,c3,rfl⟩,⟨a4,_,c4,rfl⟩,⟨a5,_,c5,rfl⟩,⟨a6,_,c6,rfl⟩⟩:=ae;have j:=za9 I (Xe _);obtain⟨U,X,Y,Z,q4,q5⟩:=j;clear b d htx P;go_wp2_with fail
 generalize World.alloc _ _=w2 at *;refine N.out.mono ?_;rintro e K ⟨rfl,Q⟩;have y3:Ext w2 K:=Xf Q;have x3:Ext f K:=L.trans y3;clear Q U X Y Z q4 q5;go_wp2_with fail
 refine(M.out K (y.trans x3)).mono ?_;rintro e w4 ⟨⟨kind,a,l,c,val,n,log,rfl,j⟩,D⟩;obtain⟨_,pts,_,_,n',_,_,_,e0,e1,e2,e3,e4,T,ad,S⟩:=aa.out _ _ _ _ _ _ _ j;cases e0;cases e1;cases e2;cases e3;cases e4;have x4:Ext f w4:=x3.trans (Xf D);obtain⟨o,z⟩:=new1 w4 (cl #[it Xb kind,V a l c,gS val,it Xb (n':Int),gS log] 31);have r0:=c_ 0 o;have r1:=c_ 1 o;have r2:=c_ 2 o;have y2:=(y3.trans (Xf D)).trans z;obtain⟨U,X,Y,Z,q4,q5⟩:=za9 I y2;have a8:=zf (a7.out _ (x4.trans z) kind _ pts val (T.ext z) ad S);clear j T S D o I;go_wp2_with fail
 refine a8.out.mono ?_;rintro e w6 ⟨rfl,R⟩;have x6:=(y.trans (x4.trans z)).trans (Xf R);clear R;go_wp2;go_ret;exact⟨rfl,x6⟩
