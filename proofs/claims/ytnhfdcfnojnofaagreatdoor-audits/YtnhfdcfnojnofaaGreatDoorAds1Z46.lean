import Derived.Test.YtnhfdcfnojnofaaGreatDoorAds1Z38
import Derived.Test.YtnhfdcfnojnofaaGreatDoorAds1Z29
open Option renaming none->O,some->E
open Go.Value renaming slice->V,bool->G,pointer->pn,int->it,agg->ag
open Go.Obj renaming cells->cl
open Go renaming World->H
open Go.Proofs.Tryz renaming prog->pg
open Go.Proofs.Tryz
set_option linter.unusedSimpArgs false
set_option linter.unusedVariables false
set_option maxHeartbeats 4000000
set_option maxRecDepth 100000
namespace Go.Proofs.YtnhfdcfnojnofaaGreatDoor.T
open Go.RowKit
theorem take_flat {a b:Type}{f:a->List b}{l:List a}{i:Nat}{x:a}(h:l[i]? =E x):(l.take (i+1)).flatMap f=(l.take i).flatMap f++f x:=by
 obtain⟨a,b⟩:=zn.1 h;rw[Zh a,zax,J8,List.flatMap_nil,Q1,b]
theorem zfc {a:Type}{f:Nat->List a}(i:Nat):(List.range (i+1)).flatMap f=(List.range i).flatMap f++f i:=by
 rw[List.range_succ,zax,J8,List.flatMap_nil,Q1]
theorem zlf {l:List UInt8}(h:jQ l=true):l= [60,61]\/l= [62,61]\/l= [61]:=by
 simpa[jQ]using h
theorem zfV {w:H}{B e size n:Nat}{v:Value}{b:List Value}(h:w.ownsRow B e size v n b):∃a c,v=V a n c:=by
 obtain⟨_,b|⟨_,_,_,d,_⟩⟩:=h;·exact⟨O,0,by rw[b.1,b.2]⟩
 ·exact⟨_,_,d⟩
theorem zjI (b w:H)(C L:Nat)(p:qo)(h:RPr b w C p)(a:ji L p)(c:2+p.n<=L):
 Calls pg 194 #[pn (E ⟨C,0,O⟩)] w fun e w'=>∃v,e= .returned v/\zga w.heap.size w' v (zaV p)/\Below w.heap.size w w':=by
 obtain⟨i0,ad,ae,af,ah⟩:=qL Tryz.infoRowRef;obtain⟨j0,aQ,aS,aT,aU⟩:=qL Tryz.infoNum;obtain⟨_,_⟩:=a.n om;have b4:p.rg.length=p.n:=by have:=a.g;omega
 have b:=a.l;have aZ:=zi a.bg;have n:=zi a.br;have Q:=zi a.c;clear a;obtain⟨_,_,_,l,a⟩:=h;have HQ:=zi a;clear a;obtain⟨a,j,b,c,d,g,e1,e2,e3,i⟩:=HQ.out.box;clear g e1 e2 e3 i j;have HK:=zi (fun W (q:Ext w W)=>And.intro (q.cell a) (And.intro (q.cell b) (And.intro (q.cell c) (q.cell d))));clear a b c d;have aM:=zi (fun W d i g Z m k I j a c b=>ziD W d i g Z m k I j a 11 c b);obtain⟨b,c,hvC⟩:∃b c,l=V b p.rows.length c:=by
  obtain⟨_,a,d,_⟩:=HQ.out.cs;obtain⟨b,c,h⟩:=zfV d;exact⟨b,c,by rw[h,a]⟩
 have aX:=zi hvC;clear hvC;have b:=zi (Ext.refl w);have a3:∀a:Prop,Hid a->a:=fun a h=>h
 go_enter func194,ntmps194
 go_wp2_with fail
 go_loopw [3,4] (fun lv S wr=>∃(i:Nat),S=it .i64 (i:Nat)/\i<=p.rows.length/\Hid (zga w.heap.size wr lv ((p.rows.take i).flatMap jK))/\Ext w wr) (fun _ S _=>p.rows.length-(intOf S).toNat)
 case atStart=>exact⟨0,rfl,om,QJ.nil _ _ _,b.out⟩
 case round=>
  obtain⟨i,rfl,hi,HL,P⟩:=hrel;by_cases aF:i<p.rows.length
  ·obtain⟨r,hr⟩:∃r,p.rows[i]? =E r:=⟨_,zj aF⟩;have A:=qJ hr;have az:=zi (take_flat (f:=jK) hr);obtain⟨t,R,⟨⟨a,Gl,b⟩,_,⟨d,⟨c,k,j⟩,⟨l,Sl,m⟩⟩⟩,g,u,c1,c2,c3,B,y,J,F,z⟩:=HQ.out.cs.at i r hr;simp only[jU.gv,Tri.up,Tri.down]at u c1 c2 c3 B y J F z;have K:=(n.out r A).1;have N:=(n.out r A).2;have n:r.1.length<=4:=by have:=(Q.out r A).1;omega
   have D:=y.lt;have au:=zi (zeg (p.rows.take i));have n:((p.rows.take i).flatMap jK).length<=12:=by
    have:=au.out;rw[zU]at this;omega
   obtain⟨m0,m2,m3,m4⟩:=HK.out wr P;have a2:=zi (fun W (q:Ext w W)=>And.intro (by have h:=(HK.out W q).2.2.2;rw[g]at h;exact h) (And.intro (q.cell u) (And.intro (q.cell c1) (And.intro (q.cell c2) (And.intro (q.cell c3) (q.cell B))))));have n:=zi g;clear g;have z0:=P;have T:(V a Gl b).ownBlock=O\/True:=Or.inr trivial;have aL:Hid (∀W v,Ext w W->(∀g,v.ownBlock=E g->w.heap.size<=g)->RowIs (fun _=>False) W v ⟨(a,Gl,b),⟨d,(c,k,j),(l,Sl,m)⟩⟩ (r.1,r.2.2)):=by
    intro W v q I;refine⟨y.below q,z.below q,fun g n=>⟨fun e=>?_,?_,fun h=>h⟩⟩
    ·have h1:=I g e;have Y:=D g n;omega
    ·have Y:=D g n;have I:=q.size;omega
   have ay:=zi (fun W (q:Ext w W)=>aM.out W a Gl b ⟨d,(c,k,j),(l,Sl,m)⟩ r.1 r.2.2 (y.below q) (z.below q) om (fun M hz=>Qm (K M hz) dc) (Qm N dc));simp only[Tri.up,Tri.down]at ay;have aR:(i:Int)<(p.rows.length:Int):=om;clear u c1 c2 c3 B y J z K N D T m0 m2 m3 m4 au;have a1:=zlf (Q.out r A).2;obtain⟨s0,s1,s2,s3,s4,s5⟩:=a2.out wr z0;rcases a1 with a1|a1|a1
   all_goals
    rw[a1]at F;subst F;go_wp2_with fail
    go_region_held3 (fun W=>W.cell? ⟨C,4,O⟩=E (V (E ⟨t,0,O⟩) p.rows.length R)/\W.cell? ⟨t,i*5,O⟩=E (V a Gl b)/\W.cell? ⟨t,i*5+2,O⟩=E (G d)/\W.cell? ⟨t,i*5+3,O⟩=E (V c k j)/\W.cell? ⟨t,i*5+4,O⟩=E (V l Sl m)) (first|(have t:=a2.out _ (by with_reducible first|assumption|exact Ext.alloc am _|exact Ext.drew am|exact Ext.alloc (Ext.drew am) _|exact Ext.drew (Ext.alloc am _));exact⟨t.1,t.2.1,t.2.2.2.1,t.2.2.2.2.1,t.2.2.2.2.2⟩)|go_keep) (fail)
   ·have _z:=trivial;have N:=qq wr (cl #[V a Gl b,G d,V c k j,V l Sl m] 308);have x5:Ext wr (wr.alloc (cl #[V a Gl b,G d,V c k j,V l Sl m] 308)).drew:=((Ext.refl wr).alloc _).drew;have b0:(wr.alloc (cl #[V a Gl b,G d,V c k j,V l Sl m] 308)).drew.cell? ⟨wr.heap.size,0,O⟩=E (V a Gl b):=c_ 0 N;have b1:(wr.alloc (cl #[V a Gl b,G d,V c k j,V l Sl m] 308)).drew.cell? ⟨wr.heap.size,1,O⟩=E (G d):=c_ 1 N;have b2:(wr.alloc (cl #[V a Gl b,G d,V c k j,V l Sl m] 308)).drew.cell? ⟨wr.heap.size,2,O⟩=E (V c k j):=c_ 2 N;have b3:(wr.alloc (cl #[V a Gl b,G d,V c k j,V l Sl m] 308)).drew.cell? ⟨wr.heap.size,3,O⟩=E (V l Sl m):=c_ 3 N;have aw:Hid ((wr.alloc (cl #[V a Gl b,G d,V c k j,V l Sl m] 308)).drew.heap.size=wr.heap.size+1):=by rw[Hid];simp[World.drew]
    clear N s0 s1 s2 s3 s4 s5;generalize (wr.alloc (cl #[V a Gl b,G d,V c k j,V l Sl m] 308)).drew=t at *;have X:=P.trans x5;have aj:=zi (HL.out.ext x5);obtain⟨s0,s1,s2,s3,s4,s5⟩:=a2.out t X;have CR:Hid (jK r= [(r.1,r.2.2)]):=by rw[Hid];unfold jK;rw[a1];rfl
    have U:Ext w (t.alloc (cl #[V a Gl b,G d,V c k j,V l Sl m] 308)):=X.alloc _;have a4:=aj.out.ext ((Ext.refl t).alloc (cl #[V a Gl b,G d,V c k j,V l Sl m] 308));have ax:=zi a4.lt;obtain⟨T,a8,Q,ar⟩:=a4.open;have aB:=zi a8;have b5:T.length<=100:=by rw[a8];omega
    have al:=zi (aL.out _ u3 U (fun g n=>(ax.out g n).1));have an:=zi ar;clear a8 ar a4;go_wp2_with (at_builtin;refine a3 _ ?_)
    unfold Hid;refine Qz _ rfl _ _ 302 rfl w.heap.size 308 i0 (ag #[V O 0 0,G false,V O 0 0,V O 0 0]) 4 80 underlying302 ad ae af ah rfl dc u3 T.length (T.map Qb.cells).flatten rfl Q ⟨t.heap.size,0,O⟩ 1 1 (Qb.cells ⟨(a,Gl,b),⟨d,(c,k,j),(l,Sl,m)⟩⟩) rfl rfl (rec_new t (Qb.cells ⟨(a,Gl,b),⟨d,(c,k,j),(l,Sl,m)⟩⟩) 308) (Qb.one _) om mo om U.size (t.heap.size+1) sp ?_;intro aE aD aa aq R ao aG;have aA:=zi (QJ.grow (x:=(r.1,r.2.2)) aB.out Q an.out al.out R aq (by simpa using ao));have ai:Ext w aa:=JH U Q R U.size;have aK:=zi R;have aW:=zi Q;clear aq R ao aG an al Q;obtain⟨s0,s1,s2,s3,s4,s5⟩:=a2.out aa ai;go_wp2_with fail
    go_roundw
    case rel=>exact⟨i+1,by go_num,om,by rw[Hid,az.out,CR.out];exact aA.out,ai⟩
    case measure=>simp[intOf];omega
   ·have _z:=trivial;have N:=qq wr (cl #[V a Gl b,G d,V c k j,V l Sl m] 308);have x5:Ext wr (wr.alloc (cl #[V a Gl b,G d,V c k j,V l Sl m] 308)).drew:=((Ext.refl wr).alloc _).drew;have b0:(wr.alloc (cl #[V a Gl b,G d,V c k j,V l Sl m] 308)).drew.cell? ⟨wr.heap.size,0,O⟩=E (V a Gl b):=c_ 0 N;have b1:(wr.alloc (cl #[V a Gl b,G d,V c k j,V l Sl m] 308)).drew.cell? ⟨wr.heap.size,1,O⟩=E (G d):=c_ 1 N;have b2:(wr.alloc (cl #[V a Gl b,G d,V c k j,V l Sl m] 308)).drew.cell? ⟨wr.heap.size,2,O⟩=E (V c k j):=c_ 2 N;have b3:(wr.alloc (cl #[V a Gl b,G d,V c k j,V l Sl m] 308)).drew.cell? ⟨wr.heap.size,3,O⟩=E (V l Sl m):=c_ 3 N;have aw:Hid ((wr.alloc (cl #[V a Gl b,G d,V c k j,V l Sl m] 308)).drew.heap.size=wr.heap.size+1):=by rw[Hid];simp[World.drew]
    clear N s0 s1 s2 s3 s4 s5;generalize (wr.alloc (cl #[V a Gl b,G d,V c k j,V l Sl m] 308)).drew=t at *;have X:=P.trans x5;have aj:=zi (HL.out.ext x5);obtain⟨s0,s1,s2,s3,s4,s5⟩:=a2.out t X;have CR:Hid (jK r= [(r.1.map (fun M=>-M),-r.2.2)]):=by rw[Hid];unfold jK;rw[a1];rfl
    go_wp2_with fail
    refine(ay.out t X).mono ?_;rintro e ab ⟨⟨⟨y,B,A⟩,⟨z,⟨C,F,D⟩,⟨I,K,J⟩⟩⟩,rfl,a6,a7,a0,ap⟩;simp only[Qb.gv,Tri.up,Tri.down]at a6 a7 a0⊢;have aJ:Ext w (ab.alloc (cl #[V y B A,G z,V C F D,V I K J] 308)):=(X.trans (Ext.of ap)).alloc _;have a5:=aj.out;have ak:=a5.lt;have aN:=a5.ext ((Ext.of ap).alloc (cl #[V y B A,G z,V C F D,V I K J] 308));have aO:Hid (RowIs (fun _=>False) (ab.alloc (cl #[V y B A,G z,V C F D,V I K J] 308)) u3 ⟨(y,B,A),⟨z,(C,F,D),(I,K,J)⟩⟩ (r.1.map (fun M=>-M),-r.2.2)):=by
     refine⟨a6.below ((Ext.refl ab).alloc _),a7.below ((Ext.refl ab).alloc _),fun g n=>⟨fun e=>?_,?_,fun h=>h⟩⟩
     ·have h1:=ak g e;have Y:=a0 g n;omega
     ·have Y:=a0 g n;simp;omega
    obtain⟨aI,aH,av,aV⟩:=aN.open;have aY:=zi aH;have aP:aI.length<=100:=by rw[aH];omega
    have aP:=zi aV;clear aH aV aN a5 ak a6 a7 a0;go_wp2_with (at_builtin;refine a3 _ ?_)
    unfold Hid;refine Qz _ rfl _ _ 302 rfl w.heap.size 308 i0 (ag #[V O 0 0,G false,V O 0 0,V O 0 0]) 4 80 underlying302 ad ae af ah rfl dc u3 aI.length (aI.map Qb.cells).flatten rfl av ⟨ab.heap.size,0,O⟩ 1 1 (Qb.cells ⟨(y,B,A),⟨z,(C,F,D),(I,K,J)⟩⟩) rfl rfl (rec_new ab (Qb.cells ⟨(y,B,A),⟨z,(C,F,D),(I,K,J)⟩⟩) 308) (Qb.one _) om mo om aJ.size (ab.heap.size+1) sp ?_;intro ab ab b6 aI ab aH aV;have aN:=zi (QJ.grow (x:=(r.1.map (fun M=>-M),-r.2.2)) aY.out av aP.out aO.out ab aI (by simpa using aH));have aY:Ext w b6:=JH aJ av ab aJ.size;clear aI ab aH aV aP aO av;go_wp2_with fail
    go_roundw
    case rel=>exact⟨i+1,by go_num,om,by rw[Hid,az.out,CR.out];exact aN.out,aY⟩
    case measure=>simp[intOf];omega
   ·have _z:=trivial;have N:=qq wr (cl #[V a Gl b,G d,V c k j,V l Sl m] 308);have x5:Ext wr (wr.alloc (cl #[V a Gl b,G d,V c k j,V l Sl m] 308)).drew:=((Ext.refl wr).alloc _).drew;have b0:(wr.alloc (cl #[V a Gl b,G d,V c k j,V l Sl m] 308)).drew.cell? ⟨wr.heap.size,0,O⟩=E (V a Gl b):=c_ 0 N;have b1:(wr.alloc (cl #[V a Gl b,G d,V c k j,V l Sl m] 308)).drew.cell? ⟨wr.heap.size,1,O⟩=E (G d):=c_ 1 N;have b2:(wr.alloc (cl #[V a Gl b,G d,V c k j,V l Sl m] 308)).drew.cell? ⟨wr.heap.size,2,O⟩=E (V c k j):=c_ 2 N;have b3:(wr.alloc (cl #[V a Gl b,G d,V c k j,V l Sl m] 308)).drew.cell? ⟨wr.heap.size,3,O⟩=E (V l Sl m):=c_ 3 N;have aw:Hid ((wr.alloc (cl #[V a Gl b,G d,V c k j,V l Sl m] 308)).drew.heap.size=wr.heap.size+1):=by rw[Hid];simp[World.drew]
    clear N s0 s1 s2 s3 s4 s5;generalize (wr.alloc (cl #[V a Gl b,G d,V c k j,V l Sl m] 308)).drew=t at *;have X:=P.trans x5;have aj:=zi (HL.out.ext x5);obtain⟨s0,s1,s2,s3,s4,s5⟩:=a2.out t X;have CR:Hid (jK r= [(r.1,r.2.2),(r.1.map (fun M=>-M),-r.2.2)]):=by rw[Hid];unfold jK;rw[a1];rfl
    have U:Ext w (t.alloc (cl #[V a Gl b,G d,V c k j,V l Sl m] 308)):=X.alloc _;have a4:=aj.out.ext ((Ext.refl t).alloc (cl #[V a Gl b,G d,V c k j,V l Sl m] 308));have ax:=zi a4.lt;obtain⟨T,a8,Q,ar⟩:=a4.open;have aB:=zi a8;have b5:T.length<=100:=by rw[a8];omega
    have al:=zi (aL.out _ u3 U (fun g n=>(ax.out g n).1));have an:=zi ar;clear a8 ar a4;go_wp2_with (at_builtin;refine a3 _ ?_)
    unfold Hid;refine Qz _ rfl _ _ 302 rfl w.heap.size 308 i0 (ag #[V O 0 0,G false,V O 0 0,V O 0 0]) 4 80 underlying302 ad ae af ah rfl dc u3 T.length (T.map Qb.cells).flatten rfl Q ⟨t.heap.size,0,O⟩ 1 1 (Qb.cells ⟨(a,Gl,b),⟨d,(c,k,j),(l,Sl,m)⟩⟩) rfl rfl (rec_new t (Qb.cells ⟨(a,Gl,b),⟨d,(c,k,j),(l,Sl,m)⟩⟩) 308) (Qb.one _) om mo om U.size (t.heap.size+1) sp ?_;intro aE aD aa aq R ao aG;have aA:=zi (QJ.grow (x:=(r.1,r.2.2)) aB.out Q an.out al.out R aq (by simpa using ao));have ai:Ext w aa:=JH U Q R U.size;have aK:=zi R;have aW:=zi Q;clear aq R ao aG an al Q;obtain⟨s0,s1,s2,s3,s4,s5⟩:=a2.out aa ai;have far:∀N,aa.cell? ⟨wr.heap.size,N,O⟩=(t.alloc (cl #[V a Gl b,G d,V c k j,V l Sl m] 308)).cell? ⟨wr.heap.size,N,O⟩:=fun N=>aK.out.cell_far ⟨wr.heap.size,N,O⟩ (by have:=aw.out;simp;omega) (fun e=>by have:=(HL.out.lt _ e.symm).2;simp at this)
    have j:=(far 0).trans (((Ext.refl t).alloc _).cell b0);have a:=(far 1).trans (((Ext.refl t).alloc _).cell b1);have a:=(far 2).trans (((Ext.refl t).alloc _).cell b2);have a:=(far 3).trans (((Ext.refl t).alloc _).cell b3);clear far;go_wp2_with fail
    refine(ay.out aa ai).mono ?_;rintro e a ⟨⟨⟨y,B,A⟩,⟨z,⟨C,F,D⟩,⟨I,K,J⟩⟩⟩,rfl,a6,a7,a0,ap⟩;simp only[Qb.gv,Tri.up,Tri.down]at a6 a7 a0⊢;have k:Ext w (a.alloc (cl #[V y B A,G z,V C F D,V I K J] 308)):=(ai.trans (Ext.of ap)).alloc _;have a5:=aA.out;have ak:=a5.lt;have l:=a5.ext ((Ext.of ap).alloc (cl #[V y B A,G z,V C F D,V I K J] 308));have m:Hid (RowIs (fun _=>False) (a.alloc (cl #[V y B A,G z,V C F D,V I K J] 308)) (V (E ⟨aE,0,O⟩) (T.length+1) aD) ⟨(y,B,A),⟨z,(C,F,D),(I,K,J)⟩⟩ (r.1.map (fun M=>-M),-r.2.2)):=by
     refine⟨a6.below ((Ext.refl a).alloc _),a7.below ((Ext.refl a).alloc _),fun g n=>⟨fun e=>?_,?_,fun h=>h⟩⟩
     ·have h1:=ak g e;have Y:=a0 g n;omega
     ·have Y:=a0 g n;simp;omega
    obtain⟨d,c,b,N⟩:=l.open;have Q:=zi c;have t:d.length<=100:=by rw[c];(rw[zX,qF];omega)
    have t:=zi N;clear c N l a5 ak a6 a7 a0;go_wp2_with (at_builtin;refine a3 _ ?_)
    unfold Hid;refine Qz _ rfl _ _ 302 rfl w.heap.size 308 i0 (ag #[V O 0 0,G false,V O 0 0,V O 0 0]) 4 80 underlying302 ad ae af ah rfl dc (V (E ⟨aE,0,O⟩) (T.length+1) aD) d.length (d.map Qb.cells).flatten rfl b ⟨a.heap.size,0,O⟩ 1 1 (Qb.cells ⟨(y,B,A),⟨z,(C,F,D),(I,K,J)⟩⟩) rfl rfl (rec_new a (Qb.cells ⟨(y,B,A),⟨z,(C,F,D),(I,K,J)⟩⟩) 308) (Qb.one _) om mo om k.size (a.heap.size+1) sp ?_;intro a a R d a c N;have l:=zi (QJ.grow (x:=(r.1.map (fun M=>-M),-r.2.2)) Q.out b t.out m.out a d (by simpa using c));have r:Ext w R:=JH k b a k.size;clear d a c N t m b;go_wp2_with fail
    go_roundw
    case rel=>exact⟨i+1,by go_num,om,by rw[Hid,az.out,CR.out];rw[List.append_cons];exact l.out,r⟩
    case measure=>simp[intOf];omega
  ·obtain rfl:i=p.rows.length:=om;have a:Hid (zga w.heap.size wr u3 (p.rows.flatMap jK)):=by
    have:=HL.out;rw[Zw]at this;exact this
   obtain⟨m0,m2,m3,m4⟩:=HK.out wr P;rw[aX.out]at m4;have au:=zi (zeg p.rows);clear HL aF hi;go_wp2_with fail
   go_loopw [3,6] (fun lv S wr=>∃(i:Nat),S=it .i64 (i:Nat)/\i<=p.n/\Hid (zga w.heap.size wr lv (p.rows.flatMap jK++(List.range i).flatMap fun i=>zaM p.n i (p.rg.getD i (0,0))))/\Ext w wr) (fun _ S _=>p.n-(intOf S).toNat)
   case atStart=>exact⟨0,rfl,om,by rw[Hid,List.range_zero,List.flatMap_nil,Q1];exact a.out,P⟩
   case round=>
    clear a P m0 m2 m3 m4;obtain⟨i,rfl,hi,HL,P⟩:=hrel;obtain⟨w3,rfl⟩:∃w3,w3=wr:=⟨_,rfl⟩;obtain⟨m0,m2,m3,m4⟩:=HK.out w3 P;by_cases aF:i<p.n
    ·have l:i<p.rg.length:=om;have m:p.rg.getD i (0,0)∈p.rg:=by rw[zk,zj l];exact zZ _
     obtain⟨aD,_⟩:=aZ.out _ m;obtain⟨_,_,_,⟨Lb,⟨La,Ll,Lk⟩,⟨Ka,Kl,Kk⟩⟩,b,_,l0,l1,l2,k⟩:=HQ.out.lo.nums.at_map i p.rg.length (p.rg.getD i (0,0)).1 sp (by rw[zQ,zk,zj l];rfl);obtain⟨_,_,_,⟨Hb,⟨Ha,Hl,Hk⟩,⟨Ia,Il,Ik⟩⟩,a,_,d,h1,Y,c⟩:=HQ.out.hi.nums.at_map i p.rg.length (p.rg.getD i (0,0)).2 sp (by rw[zQ,zk,zj l];rfl);rw[b4]at b a;simp only[Tri.up,Tri.down,Tri.val]at l0 l1 l2 k d h1 Y c;have ax:=zi (fun W (q:Ext w W)=>And.intro (q.cell l0) (And.intro (q.cell l1) (And.intro (q.cell l2) (And.intro ((HK.out W q).1) (by have h:=(HK.out W q).2.1;rw[b]at h;exact h)))));have aA:=zi (fun W (q:Ext w W)=>k.below q);have az:=zi (fun W (q:Ext w W)=>c.below q);have aB:=zi (zfc (f:=fun i=>zaM p.n i (p.rg.getD i (0,0))) i);have aR:(i:Int)<(p.n:Int):=om;have l:=P.cell d;have l:=P.cell h1;have l:=P.cell Y;rw[a]at m3;have l:=zi b;have l:=zi a;clear l0 l1 l2 k d h1 Y c b a m;go_wp2_with fail
     have a:=zav.start w3 ⟨Hb,(Ha,Hl,Hk),(Ia,Il,Ik)⟩;simp only[Tri.up,Tri.down]at a;have c:=zi a;clear a;generalize w3.alloc (cl #[V O 0 0,G Hb,V Ha Hl Hk,V Ia Il Ik] 308)=a at *;generalize ab:w3.heap.size=b at *;have a6:=zi ab;clear ab;go_loopw [8] (fun k wr=>∃(a:List Tri) (v:Value),k=it .i64 (a.length:Nat)/\a.length<=p.n/\zav w3 wr b v a ⟨Hb,(Ha,Hl,Hk),(Ia,Il,Ik)⟩/\Hid (∀(N:Nat) (Z:Tri),a[N]? =E Z->qe wr Z.val (if N=i then 1 else 0) 1)) (fun S _=>p.n-(intOf S).toNat)
     case atStart=>exact⟨[],_,rfl,sp,c.out,by rw[Hid];intro i Z h;simp at h⟩
     case round=>
      clear c;obtain⟨a,v,rfl,_,q,a5⟩:=hrel;obtain⟨va,vc,rfl⟩:=zfV q.own;obtain⟨_,_,_,_,_⟩:=ax.out wr (P.trans q.low);have aG:=P.trans q.low;by_cases c:a.length<p.n
      ·have aE:(a.length:Int)<(p.n:Int):=om;go_wp2_with fail
       refine(zaD _).mono ?_;rintro e c ⟨_,rfl,ay,k⟩;obtain⟨u,Q,S,R,T,W,U,rfl,-⟩:=ay.parts;have xP:=Ext.of k;have a1:=zq c (cl #[G u,V Q S R,V T W U] 118);have aa:=c_ 0 a1;have aj:=c_ 1 a1;have ak:=c_ 2 a1;by_cases aq:a.length=i
       ·have aF:(a.length:Int)=(i:Int):=om;have ai:=zi aq;clear aq;go_wp2_with fail
        refine(of_one _).mono ?_;rintro e X ⟨_,rfl,a2,a4⟩;obtain⟨j,k,m,l,d,t,r,rfl,-⟩:=a2.parts;have xQ:=Ext.of a4;obtain⟨a7,a4⟩:=zmu (s:=⟨u,(Q,S,R),(T,W,U)⟩) (t:=⟨j,(k,m,l),(d,t,r)⟩) (w:=c) xQ a2;have e9:=(xQ.block _ sp).trans a1;have g0:=c_ 0 e9;have g1:=c_ 1 e9;have g2:=c_ 2 e9;have z0:X.frozen? ⟨c.heap.size,0,O⟩=false:=ZX e9;have z1:X.frozen? ⟨c.heap.size,1,O⟩=false:=ZX e9;have z2:X.frozen? ⟨c.heap.size,2,O⟩=false:=ZX e9;have x9:Ext wr (((X.setCell ⟨c.heap.size,0,O⟩ (G j)).setCell ⟨c.heap.size,1,O⟩ (V k m l)).setCell ⟨c.heap.size,2,O⟩ (V d t r)):=JA (o:=0) (t:=⟨j,(k,m,l),(d,t,r)⟩) ((xP.alloc _).trans xQ) xP.size;have a2:jV (((X.setCell ⟨c.heap.size,0,O⟩ (G j)).setCell ⟨c.heap.size,1,O⟩ (V k m l)).setCell ⟨c.heap.size,2,O⟩ (V d t r)) c.heap.size 0 ⟨j,(k,m,l),(d,t,r)⟩:=a7;have a8:qe (((X.setCell ⟨c.heap.size,0,O⟩ (G j)).setCell ⟨c.heap.size,1,O⟩ (V k m l)).setCell ⟨c.heap.size,2,O⟩ (V d t r)) (Tri.val ⟨j,(k,m,l),(d,t,r)⟩) 1 1:=a4;clear a7 a4 a1 aa aj ak e9;generalize aH:((X.setCell ⟨c.heap.size,0,O⟩ (G j)).setCell ⟨c.heap.size,1,O⟩ (V k m l)).setCell ⟨c.heap.size,2,O⟩ (V d t r)=wW at *;have X:=a2.1;have b9:=a2.2.1;have c9:=a2.2.2.1;simp only[Tri.up,Tri.down]at X b9 c9;have a7:Ext wr (wW.alloc (cl #[G j,V k m l,V d t r] 118)):=x9.alloc _;have al:=q.ext a7;have pA:=(q.ext x9).bg.1;have av:Hid (qe (wW.alloc (cl #[G j,V k m l,V d t r] 118)) (Tri.val ⟨j,(k,m,l),(d,t,r)⟩) (if a.length=i then 1 else 0) 1):=by
         rw[z8 ai.out];exact a8.alloc _
        clear a8 a2;have X:=al;have pB:=X.bg.1;have hJ:=X.le;go_wp2_with (at_builtin;refine a3 _ ?_)
        unfold Hid;refine Qz _ rfl _ _ 200 rfl (b+1) 118 j0 (ag #[G false,V O 0 0,V O 0 0]) 3 56 underlying200 aQ aS aT aU rfl dc (V va a.length vc) a.length (Zj a) rfl X.own ⟨wW.heap.size,0,O⟩ 1 1 (Tri.cells ⟨j,(k,m,l),(d,t,r)⟩) rfl rfl (zap wW ⟨j,(k,m,l),(d,t,r)⟩ _) (zfa _) om mo om hJ (wW.heap.size+1) sp ?_;intro g2 ak w6 aa a1 an ar;obtain⟨q0,aI⟩:=X.far a1;have hG:=X.grow (x:=⟨j,(k,m,l),(d,t,r)⟩) a1 aa;have aj:Hid (∀(N:Nat) (Z:Tri),(a ++ [⟨j,(k,m,l),(d,t,r)⟩])[N]? =E Z->qe (w6.setCell ⟨b,0,O⟩ (V (E ⟨g2,0,O⟩) (a.length+1) ak)) Z.val (if N=i then 1 else 0) 1):=by
         intro N Z a2;by_cases ap:N<a.length
         ·rw[zM ap]at a2;exact X.num a1 _ ((a5.out N Z a2).below a7)
         ·have ao:N=a.length:=by
           have:=(zn.1 a2).1;simp at this;omega
          subst ao;rw[zJ (zh _),Zy]at a2;have aw:=qV a2;subst aw;exact X.num a1 _ av.out
        have a8:(a ++ [(⟨j,(k,m,l),(d,t,r)⟩:Tri)]).length=a.length+1:=sp;generalize a ++ [(⟨j,(k,m,l),(d,t,r)⟩:Tri)]=d at *;clear a1 aa a5 an ar;go_wp2_with fail
        go_roundw
        case rel=>exact⟨d,_,by first|(rw[a8];go_num)|(rw[a8,ai.out];go_num),om,hG,aj⟩
        case measure=>simp[intOf];omega
       ·have aF:¬(a.length:Int)=(i:Int):=om;have a7:Ext wr ((c.alloc (cl #[G u,V Q S R,V T W U] 118)).alloc (cl #[G u,V Q S R,V T W U] 118)):=(xP.alloc _).alloc _;have al:=q.ext a7;have pA:=(q.ext (xP.alloc (cl #[G u,V Q S R,V T W U] 118))).bg.1;have av:Hid (qe ((c.alloc (cl #[G u,V Q S R,V T W U] 118)).alloc (cl #[G u,V Q S R,V T W U] 118)) (Tri.val ⟨u,(Q,S,R),(T,W,U)⟩) (if a.length=i then 1 else 0) 1):=by
         rw[zW aq];exact(ay.alloc _).alloc _
        generalize aH:c.alloc (cl #[G u,V Q S R,V T W U] 118)=wW at *;have X:=al;have pB:=X.bg.1;have hJ:=X.le;go_wp2_with (at_builtin;refine a3 _ ?_)
        unfold Hid;refine Qz _ rfl _ _ 200 rfl (b+1) 118 j0 (ag #[G false,V O 0 0,V O 0 0]) 3 56 underlying200 aQ aS aT aU rfl dc (V va a.length vc) a.length (Zj a) rfl X.own ⟨wW.heap.size,0,O⟩ 1 1 (Tri.cells ⟨u,(Q,S,R),(T,W,U)⟩) rfl rfl (zap wW ⟨u,(Q,S,R),(T,W,U)⟩ _) (zfa _) om mo om hJ (wW.heap.size+1) sp ?_;intro g2 ak w6 aa a1 an ar;obtain⟨q0,aI⟩:=X.far a1;have hG:=X.grow (x:=⟨u,(Q,S,R),(T,W,U)⟩) a1 aa;have aj:Hid (∀(N:Nat) (Z:Tri),(a ++ [⟨u,(Q,S,R),(T,W,U)⟩])[N]? =E Z->qe (w6.setCell ⟨b,0,O⟩ (V (E ⟨g2,0,O⟩) (a.length+1) ak)) Z.val (if N=i then 1 else 0) 1):=by
         intro N Z a2;by_cases ap:N<a.length
         ·rw[zM ap]at a2;exact X.num a1 _ ((a5.out N Z a2).below a7)
         ·have ao:N=a.length:=by
           have:=(zn.1 a2).1;simp at this;omega
          subst ao;rw[zJ (zh _),Zy]at a2;have aw:=qV a2;subst aw;exact X.num a1 _ av.out
        have a8:(a ++ [(⟨u,(Q,S,R),(T,W,U)⟩:Tri)]).length=a.length+1:=sp;generalize a ++ [(⟨u,(Q,S,R),(T,W,U)⟩:Tri)]=d at *;clear a1 aa a5 an ar;go_wp2_with fail
        go_roundw
        case rel=>exact⟨d,_,by first|(rw[a8];go_num)|(rw[a8,ai.out];go_num),om,hG,aj⟩
        case measure=>simp[intOf];omega
      ·have c:Hid (a.length=p.n):=by rw[Hid];omega
       have aE:¬(a.length:Int)<(p.n:Int):=om;have ab:=a6.out;have S:=zi (q.nums (i:=i) c.out a5.out);have j:=(HL.out.avoid (A':=fun g=>g=b) (fun g n e=>om)).ext q.low;have r:=zi (fun g (n:u3.ownBlock=E g)=>(HL.out.lt g n).2);have u:=j.ext ((Ext.refl wr).alloc (cl #[V va a.length vc,G Hb,V Ha Hl Hk,V Ia Il Ik] 308));obtain⟨l,c,k,Q⟩:=u.open;have W:=zi c;have d:l.length<=100:=by
        have h1:=au.out;have Y:∀m,((List.range m).flatMap fun i=>zaM p.n i (p.rg.getD i (0,0))).length=2*m:=by
         intro m;induction m with
         |zero=>rfl
         |succ m d=>rw[zfc,zX,d];simp[zaM];omega
        rw[c,zX,Y];omega
       have X:=zi Q;have d:Ext w (wr.alloc (cl #[V va a.length vc,G Hb,V Ha Hl Hk,V Ia Il Ik] 308)):=aG.alloc _;have T:Hid (RowIs (fun g=>g=b) (wr.alloc (cl #[V va a.length vc,G Hb,V Ha Hl Hk,V Ia Il Ik] 308)) u3 ⟨(va,a.length,vc),⟨Hb,(Ha,Hl,Hk),(Ia,Il,Ik)⟩⟩ (zai p.n i,(p.rg.getD i (0,0)).2)):=by
        refine⟨S.out.below ((Ext.refl wr).alloc _),az.out _ d,fun g n=>?_⟩;have h1:=q.own.lt g n;refine⟨fun e=>?_,so,om⟩;have Y:=r.out g e;omega
       have Z:=q.ext ((Ext.refl wr).alloc (cl #[V va a.length vc,G Hb,V Ha Hl Hk,V Ia Il Ik] 308));have m:=q.bg.1;have m:wr.cell? ⟨b,1,O⟩=E (G Hb):=q.br.1;have m:wr.cell? ⟨b,2,O⟩=E (V Ha Hl Hk):=q.br.2.1;have m:wr.cell? ⟨b,3,O⟩=E (V Ia Il Ik):=q.br.2.2.1;have t:=zi (fun g (n:(V va a.length vc).ownBlock=E g)=>q.own.lt g n);clear c Q u j a5 ab q;go_wp2_with (at_builtin;refine a3 _ ?_)
       unfold Hid;refine Qz _ rfl _ _ 302 rfl w.heap.size 308 i0 (ag #[V O 0 0,G false,V O 0 0,V O 0 0]) 4 80 underlying302 ad ae af ah rfl dc u3 l.length (l.map Qb.cells).flatten rfl k ⟨wr.heap.size,0,O⟩ 1 1 (Qb.cells ⟨(va,a.length,vc),⟨Hb,(Ha,Hl,Hk),(Ia,Il,Ik)⟩⟩) rfl rfl (rec_new wr (Qb.cells ⟨(va,a.length,vc),⟨Hb,(Ha,Hl,Hk),(Ia,Il,Ik)⟩⟩) 308) (Qb.one _) om mo om d.size (wr.heap.size+1) sp ?_;intro q a1 c a5 j u a8;have U:=zi (QJ.grow (x:=(zai p.n i,(p.rg.getD i (0,0)).2)) W.out k X.out T.out j a5 (by simpa using u));have y7:Ext w c:=JH d k j d.size;obtain⟨d,q7,_,m⟩:=Z.apart j (fun g n=>by have h1:=r.out g n;have:=a6.out;omega);have x8:Ext w (((c.setCell ⟨b,1,O⟩ (G Lb)).setCell ⟨b,2,O⟩ (V La Ll Lk)).setCell ⟨b,3,O⟩ (V Ka Kl Kk)):=JA (o:=1) (t:=⟨Lb,(La,Ll,Lk),(Ka,Kl,Kk)⟩) y7 (by have h1:=P.size;have:=a6.out;omega);have R:QH c (((c.setCell ⟨b,1,O⟩ (G Lb)).setCell ⟨b,2,O⟩ (V La Ll Lk)).setCell ⟨b,3,O⟩ (V Ka Kl Kk)):=jS (o:=1) (t:=⟨Lb,(La,Ll,Lk),(Ka,Kl,Kk)⟩) m;have Q:∀m,m≠b->(((c.setCell ⟨b,1,O⟩ (G Lb)).setCell ⟨b,2,O⟩ (V La Ll Lk)).setCell ⟨b,3,O⟩ (V Ka Kl Kk)).heap[m]? =c.heap[m]?:=fun m m=>JT (o:=1) (t:=⟨Lb,(La,Ll,Lk),(Ka,Kl,Kk)⟩) m
       have m:jV (((c.setCell ⟨b,1,O⟩ (G Lb)).setCell ⟨b,2,O⟩ (V La Ll Lk)).setCell ⟨b,3,O⟩ (V Ka Kl Kk)) b 1 ⟨Lb,(La,Ll,Lk),(Ka,Kl,Kk)⟩:=zbr (o:=1) ⟨Lb,(La,Ll,Lk),(Ka,Kl,Kk)⟩ d;have q8:(((c.setCell ⟨b,1,O⟩ (G Lb)).setCell ⟨b,2,O⟩ (V La Ll Lk)).setCell ⟨b,3,O⟩ (V Ka Kl Kk)).cell? ⟨b,0,O⟩=E (V va a.length vc):=qT (qT (qT q7 om) om) om;have a2:∀g,(V va a.length vc).ownBlock=E g->c.heap[g]? =(wr.alloc (cl #[V va a.length vc,G Hb,V Ha Hl Hk,V Ia Il Ik] 308)).heap[g]?:=fun g n=>j.block g (by have:=t.out g n;simp;omega) (fun e=>by have h1:=r.out g e.symm;have Y:=t.out g n;have:=a6.out;omega)
       have a7:Hid (Qj c (V va a.length vc) ((zai p.n i).map fun M=>(M,1))):=(S.out.below ((Ext.refl wr).alloc _)).kept (QH.of_grown j (JG k dc)) a2;have S:=zi (a7.out.kept R (fun g n=>Q g (by have:=t.out g n;omega)));have t:=zi (U.out.kept R (fun g n=>Q g n) (fun g n e=>by
        have h1:q=g:=by simpa[Value.ownBlock]using n
        rcases u with h|h
        ·have:=r.out q h;have:=a6.out;omega
        ·have:=Z.le;simp at this;omega))
       have r:=d.2.2.2.1;have r:=d.2.2.2.2.1;have r:=d.2.2.2.2.2;have c1:=d.1;have c2:=d.2.1;have c3:=d.2.2.1;simp only[Tri.up,Tri.down]at c1 c2 c3;obtain⟨l0,l1,l2,_,_⟩:=ax.out c y7;clear a5 j u a8 X T k a2 Q R U;generalize d:((c.setCell ⟨b,1,O⟩ (G Lb)).setCell ⟨b,2,O⟩ (V La Ll Lk)).setCell ⟨b,3,O⟩ (V Ka Kl Kk)=c at *;have e1:c.cell? ⟨b,1,O⟩=E (G Lb):=m.1;have e2:c.cell? ⟨b,2,O⟩=E (V La Ll Lk):=m.2.1;have e3:c.cell? ⟨b,3,O⟩=E (V Ka Kl Kk):=m.2.2.1;have b:=zi (aM.out c va a.length vc ⟨Lb,(La,Ll,Lk),(Ka,Kl,Kk)⟩ (zai p.n i) (p.rg.getD i (0,0)).1 S.out (aA.out c x8) (by simp[zai];omega) (fun M hz=>by
        unfold zai at hz;obtain⟨N,_,rfl⟩:=ZC.1 hz;split<;>decide) (Qm aD dc))
       simp only[Tri.up,Tri.down]at b;go_wp2_with fail
       refine b.out.mono ?_;rintro e a ⟨⟨⟨y,B,A⟩,⟨z,⟨C,F,D⟩,⟨I,K,J⟩⟩⟩,rfl,a4,d,a0,b⟩;simp only[Qb.gv,Tri.up,Tri.down]at a4 d a0⊢;have x9:Ext w (a.alloc (cl #[V y B A,G z,V C F D,V I K J] 308)):=(x8.trans (Ext.of b)).alloc _;have c:=t.out.avoid (A':=fun _=>False) (fun g _ h=>h.elim);have k:=c.lt;have m:=c.ext ((Ext.of b).alloc (cl #[V y B A,G z,V C F D,V I K J] 308));have r:Hid (RowIs (fun _=>False) (a.alloc (cl #[V y B A,G z,V C F D,V I K J] 308)) (V (E ⟨q,0,O⟩) (l.length+1) a1) ⟨(y,B,A),⟨z,(C,F,D),(I,K,J)⟩⟩ ((zai p.n i).map (fun M=>-M),-(p.rg.getD i (0,0)).1)):=by
        refine⟨a4.below ((Ext.refl a).alloc _),d.below ((Ext.refl a).alloc _),fun g n=>⟨fun e=>?_,?_,fun h=>h⟩⟩
        ·have h1:=k g e;have Y:=a0 g n;omega
        ·have Y:=a0 g n;simp;omega
       obtain⟨j,g,b,t⟩:=m.open;have u:=zi g;have n:j.length<=200:=by
        rw[g,zX,qF];have:=W.out;omega
       have n:=zi t;clear g t m c k a4 d a0;go_wp2_with (at_builtin;refine a3 _ ?_)
       unfold Hid;refine Qz _ rfl _ _ 302 rfl w.heap.size 308 i0 (ag #[V O 0 0,G false,V O 0 0,V O 0 0]) 4 80 underlying302 ad ae af ah rfl dc (V (E ⟨q,0,O⟩) (l.length+1) a1) j.length (j.map Qb.cells).flatten rfl b ⟨a.heap.size,0,O⟩ 1 1 (Qb.cells ⟨(y,B,A),⟨z,(C,F,D),(I,K,J)⟩⟩) rfl rfl (rec_new a (Qb.cells ⟨(y,B,A),⟨z,(C,F,D),(I,K,J)⟩⟩) 308) (Qb.one _) om mo om x9.size (a.heap.size+1) sp ?_;intro a a wZ d a c j;have g:=zi (QJ.grow (x:=((zai p.n i).map (fun M=>-M),-(p.rg.getD i (0,0)).1)) u.out b n.out r.out a d (by simpa using c));have k:Ext w wZ:=JH x9 b a x9.size;clear d a c j n r b;go_wp2_with fail
       go_roundw
       case rel=>exact⟨i+1,by go_num,om,by rw[Hid,aB.out,zaM,<-jI,List.append_cons];exact g.out,k⟩
       case measure=>simp[intOf];omega
    ·have a:Hid (zga w.heap.size w3 u3 (zaV p)):=by
      have h:=HL.out;obtain rfl:i=p.n:=om;exact h
     have aR:¬(i:Int)<(p.n:Int):=om;go_wp2;go_ret;exact⟨_,rfl,a.out,P⟩
end Go.Proofs.YtnhfdcfnojnofaaGreatDoor.T
