import Derived.Test.YtnhfdcfnojnofaaGreatDoorAds1Z34
open Option renaming none->O,some->E
open Go.Value renaming slice->V,bool->G,int->it,agg->ag
open Go.Obj renaming cells->cl
open Go renaming World->H
open Go.Proofs.Tryz renaming prog->pg
open Go.Proofs.Tryz
set_option linter.unusedSimpArgs false
set_option linter.unusedVariables false
set_option maxHeartbeats 4000000
set_option maxRecDepth 100000
namespace Go.Proofs.YtnhfdcfnojnofaaGreatDoor.T
open Go.RowKit
theorem zaL.blk {B:Nat}{e w w':H}{c a b:Nat}{v:Value}{ts:List Tri}{R:Tri}(h:zaL B e w c a v ts R)(d:w.grownBy w' v.ownBlock)(u:Value)(f:b<B)(g:b≠a):(w'.setCell ⟨a,0,O⟩ u).heap[b]? =w.heap[b]?:=
 (zK _ _ _ _ so).trans (d.block b (by have:=h.le;omega) (fun e=>by have:=(h.own.lt b e.symm).1;omega))
theorem zaL.num {B:Nat}{e w w':H}{d b:Nat}{v:Value}{ts:List Tri}{R:Tri}(h:zaL B e w d b v ts R)(c:w.grownBy w' v.ownBlock)(u:Value){x:Value}{p:Int}{q:Nat}(f:qe w x p q):qe (w'.setCell ⟨b,0,O⟩ u) x p q:=by
 have e:=c.block b (by have:=h.le;have:=h.lt;omega) (fun e=>by have:=(h.own.lt b e.symm).1;have:=h.lt;omega);exact(f.grown c (JG h.own dc)).kept (QH.of_setCell (a:=⟨b,0,O⟩) (fun⟨c,b,d⟩=>h.ko ⟨c,b,e.symm.trans d⟩) u)
theorem zmr {w:H}{g:Nat}{a b c d:Value}(h:¬QE w g):QH w ((((w.setCell ⟨g,0,O⟩ a).setCell ⟨g,1,O⟩ b).setCell ⟨g,2,O⟩ c).setCell ⟨g,3,O⟩ d):=
 ⟨sp,fun k f=>zc1 (fun e=>h (e▸f))⟩
theorem zfa (t:Tri):∀u∈t.cells,u.oneCell'=true:=by
 intro u a;simp only[Tri.cells,qw,Zi,QF]at a;rcases a with rfl|rfl|rfl<;>rfl
theorem ziD (w:H)(C:Option Addr)(gl r:Nat)(t:Tri)(zs:List Int)(rz:Int)(Y:Qj w (V C gl r) (zs.map fun z=>(z,1)))(ht:qe w t.val rz 1)(hl:zs.length<=1000)(K:Nat)(bz:∀z∈zs,z.natAbs<10000^K)(br:rz.natAbs<10000^K):
 Calls pg 295 #[ag #[V C gl r,G t.b,t.up,t.down]] w fun e w'=>∃c:Qb,e= .returned (ag #[c.gv,G c.r.b,c.r.up,c.r.down])/\Qj w' c.gv ((zs.map fun z=>-z).map fun z=>(z,1))/\qe w' c.r.val (-rz) 1/\(∀g,c.gv.ownBlock=E g->w.heap.size<=g/\g<w'.heap.size)/\Below w.heap.size w w':=by
 obtain⟨D,⟨L,M,N⟩,F,I,J⟩:=t;simp only[Tri.up,Tri.down];obtain⟨i0,aU,b2,b3,b4⟩:=qL Tryz.infoNum;have aF:=Y.len;rw[zo]at aF;subst aF;have aA:Ext w ((w.alloc (cl #[V C zs.length r,G D,V L M N,V F I J] 308)).alloc zO):=((Ext.refl w).alloc _).alloc _;obtain⟨az,aw⟩:=zbs w (cl #[V C zs.length r,G D,V L M N,V F I J] 308) zO;have HV:=zi Y;have aK:=zi bz;clear Y bz;go_enter func295,ntmps295
 go_wp2_with fail
 obtain⟨Z,hw0⟩:∃Z,(w.alloc (cl #[V C zs.length r,G D,V L M N,V F I J] 308)).alloc (cl #[V O 0 0,G false,V O 0 0,V O 0 0] 308)=Z:=⟨_,rfl⟩;have hX:Ext w Z:=by rw[<-hw0];exact aA
 have hV:Z.heap[w.heap.size]? =E (cl #[V C zs.length r,G D,V L M N,V F I J] 308):=by rw[<-hw0];exact az
 have hR:Z.heap[w.heap.size+1]? =E zO:=by rw[<-hw0];exact aw
 rw[hw0];clear aA az aw hw0;refine(zdU Z (ag #[G D,V L M N,V F I J]) rz 1 (ht.below hX) K br).mono ?_;rintro e w1 ⟨_,rfl,af,a4⟩;obtain⟨i,n,p,o,j,l,k,rfl,-⟩:=af.parts;have ay:zaL (w1.heap.size+1) w (w1.alloc (cl #[V O 0 0,G i,V n p o,V j l k] 308)) (w.heap.size+1) w1.heap.size (V O 0 0) [] ⟨i,(n,p,o),(j,l,k)⟩:=zaL.start (R:=⟨i,(n,p,o),(j,l,k)⟩) hX hR (zbq _) (Ext.of a4);have ax:=af.alloc (cl #[V O 0 0,G i,V n p o,V j l k] 308);have b6:=(zf.1 hV).1;have av:(w1.alloc (cl #[V O 0 0,G i,V n p o,V j l k] 308)).heap[w.heap.size]? =E (cl #[V C zs.length r,G D,V L M N,V F I J] 308):=(zI _ _ _ (by have:=a4.size;omega)).trans ((a4.block _ b6).trans hV);go_wp2_with fail
 generalize w1.alloc (cl #[V O 0 0,G i,V n p o,V j l k] 308)=w2 at *;generalize aE:w.heap.size=m at *;generalize w1.heap.size=s at *;have aj:=zi ay;clear ay a4 hV hR hX af;go_loopw [4] (fun iv wr=>∃(f:List Tri) (a8:Value),iv=it .i64 (f.length:Nat)/\f.length<=zs.length/\zaL (s+1) w wr (m+1) s a8 f ⟨i,(n,p,o),(j,l,k)⟩/\Hid (∀(q:Nat) (t:Tri),f[q]? =E t->qe wr t.val (-(zs.getD q 0)) 1)/\qe wr (ag #[G i,V n p o,V j l k]) (-rz) 1/\Hid (wr.heap[m]? =E (cl #[V C zs.length r,G D,V L M N,V F I J] 308))) (fun iv _=>zs.length-(intOf iv).toNat)
 case atStart=>exact⟨[],_,rfl,sp,aj.out,by rw[Hid];intro q t aT;simp at aT,ax,av⟩
 case round=>
  clear aj ax av;obtain⟨f,a8,rfl,_,h,a7,ab,a9⟩:=hrel;have a0:=c_ 0 a9.out;have a6:=Ext.of h.low;have al:m<s+1/\m≠s:=by have v:=h.lt;omega
  by_cases hk:f.length<zs.length
  ·have aX:(f.length:Int)<(zs.length:Int):=om;obtain⟨-,cg,a2,rfl,_,aD⟩:=HV.out.at3 (by rw[zo];omega);obtain⟨tg,ah,k0,k1,k2⟩:=aD f.length (zs[f.length],1) (by rw[zQ,zj hk];rfl);have b5:=aK.out _ (zZ hk);have aM:Hid (zs.getD f.length 0=zs[f.length]):=by rw[Hid,zk,zj hk];rfl
   obtain⟨gb,⟨aq,ar,au⟩,an,ao,ap⟩:=tg;generalize zs[f.length]=z at *;simp only at ah;have HS:Hid (∀a1,Ext wr a1->a1.cell? ⟨m,0,O⟩=E (V (E ⟨cg,a2,O⟩) zs.length r)/\a1.cell? ⟨cg,a2+f.length*3,O⟩=E (G gb)/\a1.cell? ⟨cg,a2+f.length*3+1,O⟩=E (V aq ar au)/\a1.cell? ⟨cg,a2+f.length*3+2,O⟩=E (V an ao ap)):=
    fun a1 hW=>⟨hW.cell a0,hW.cell (a6.cell k0),hW.cell (a6.cell k1),hW.cell (a6.cell k2)⟩
   have y0:=(Ext.refl wr).drew;obtain⟨_,_,_,_⟩:=HS.out _ y0;have ak:=zi (zdU wr.drew (ag #[G gb,V aq ar au,V an ao ap]) z 1 (ah.below (a6.trans y0)) K b5);have SD:=h.ext y0;have pD:=SD.bg.1;clear k0 k1 k2 aD ah HS;go_wp2_with fail
   go_region_law (first|(have hJ:=u.le;refine zct _ rfl (.tmp 17) (.tmp 24) 200 rfl (s+1) 118 i0 (ag #[G false,V O 0 0,V O 0 0]) 3 56 underlying200 aU b2 b3 b4 rfl dc a8 f.length (Zj f) rfl u.own ⟨wA.heap.size,0,O⟩ 1 1 (Tri.cells ⟨B,(P,S,Q),(T,W,U)⟩) rfl rfl (zap wA ⟨B,(P,S,Q),(T,W,U)⟩ _) (zfa _) om mo om hJ (wA.heap.size+1) sp ?_;intro g2 aa w2 aH X b8 b9;obtain⟨_,_⟩:=u.far X)|(go_simp;go_at_call 104;refine ak.out.mono ?_;rintro e wA ⟨_,rfl,aI,aB⟩;obtain⟨B,P,S,Q,T,W,U,rfl,-⟩:=aI.parts;have xA:=Qq aB;have SA:=h.ext xA;have pA:=SA.bg.1;have u:=SA.ext ((Ext.refl wA).alloc (cl #[G B,V P S Q,V T W U] 118));have pB:=u.bg.1;go_wp2_with fail))
   all_goals
    have hG:=u.grow (x:=⟨B,(P,S,Q),(T,W,U)⟩) X aH;have ad:Ext wr (wA.alloc (cl #[G B,V P S Q,V T W U] 118)):=xA.alloc _;have aN:Hid (∀(q:Nat) (t:Tri),(f ++ [⟨B,(P,S,Q),(T,W,U)⟩])[q]? =E t->qe (w2.setCell ⟨s,0,O⟩ (V (E ⟨g2,0,O⟩) (f.length+1) aa)) t.val (-(zs.getD q 0)) 1):=by
     intro q t a3;by_cases aW:q<f.length
     ·rw[zM aW]at a3;exact u.num X _ ((a7.out q t a3).below ad)
     ·have aV:q=f.length:=by
       have:=(zn.1 a3).1;simp at this;omega
      subst aV;rw[zJ (zh _),Zy]at a3;have b1:=qV a3;subst b1;rw[aM.out];exact u.num X _ (aI.alloc _)
    have aQ:=zi (u.num X (V (E ⟨g2,0,O⟩) (f.length+1) aa) (ab.below ad));have aJ:Hid ((w2.setCell ⟨s,0,O⟩ (V (E ⟨g2,0,O⟩) (f.length+1) aa)).heap[m]? =E (cl #[V (E ⟨cg,a2,O⟩) zs.length r,G D,V L M N,V F I J] 308)):=(u.blk X _ al.1 al.2).trans ((ad.block m (zf.1 a9.out).1).trans a9.out);have aY:(f ++ [(⟨B,(P,S,Q),(T,W,U)⟩:Tri)]).length=f.length+1:=sp;generalize f ++ [(⟨B,(P,S,Q),(T,W,U)⟩:Tri)]=b7 at *;clear X aH a7 ab ak aB;go_wp2_with fail
    go_roundw
   all_goals first|exact⟨b7,_,by rw[aY];go_num,om,hG,aN,aQ.out,aJ⟩|(simp[intOf];omega)
  ·have ai:Hid (f.length=zs.length):=by rw[Hid];omega
   have aX:¬(f.length:Int)<(zs.length:Int):=om;obtain⟨y,vl,A,rfl⟩:∃y vl A,a8=V y vl A:=by
    obtain⟨_,v|⟨g,aR,aS,Y,_⟩⟩:=h.own;·exact⟨_,_,_,v.1⟩
    ·exact⟨_,_,_,Y⟩
   have aZ:vl=f.length:=by
    obtain⟨_,v|⟨g,aR,aS,Y,_⟩⟩:=h.own
    ·have:=v.1;simp only[zV]at this;omega
    ·simp only[zV]at Y;omega
   subst aZ;have aG:Qj wr (V y f.length A) ((zs.map fun z=>-z).map fun z=>(z,1)):=by
    refine zbO h.own (by rw[zo,zo];exact ai.out) (fun q t z ht hz=>?_);have hi:q<zs.length:=by
     have:=(zn.1 ht).1;have:=ai.out;omega
    rw[zQ,zQ,zj hi]at hz;simp only[Zz,z7]at hz;subst hz;have v:=a7.out q t ht;rw[zk,zj hi]at v;exact v
   have p0:=h.bg.1;have p1:wr.cell? ⟨s,1,O⟩=E (G i):=h.br.1;have p2:wr.cell? ⟨s,2,O⟩=E (V n p o):=h.br.2.1;have p3:wr.cell? ⟨s,3,O⟩=E (V j l k):=h.br.2.2.1;obtain⟨s0,s1,s2,s3,sf⟩:=h.rs;have f0:=sf 0;have f1:=sf 1;have f2:=sf 2;have f3:=sf 3;have aC:=h.low;rw[aE]at aC;have a5:m<=m+1:=zbq _;have aO:=zi (aG.kept (zmr (a:=V y f.length A) (b:=G i) (c:=V n p o) (d:=V j l k) h.kr) (fun g ae=>zc1 (by have v:=(h.own.lt g ae).1;have h2:=h.lt;omega)));have aP:=zi (zbT ab h.kr (V y f.length A) (G i) (V n p o) (V j l k));have aL:Hid (∀g,(V y f.length A).ownBlock=E g->m<=g/\g<((((wr.setCell ⟨m+1,0,O⟩ (V y f.length A)).setCell ⟨m+1,1,O⟩ (G i)).setCell ⟨m+1,2,O⟩ (V n p o)).setCell ⟨m+1,3,O⟩ (V j l k)).heap.size):=fun g ae=>by have v:=h.own.lt g ae;have h2:=h.lt;rw[aE]at h2;simp;omega
   clear aG a7 sf;go_wp2_with fail
   exact zH (v:=ag #[V y f.length A,G i,V n p o,V j l k]) (by simp[results,results295,go_sem,s0,s1,s2,s3]) rfl ⟨⟨(y,f.length,A),⟨i,(n,p,o),(j,l,k)⟩⟩,rfl,by have h9:=aO.out;rw[ZV]at h9;exact h9,aP.out,aL.out,(((aC.setCell a5 _).setCell a5 _).setCell a5 _).setCell a5 _⟩
end Go.Proofs.YtnhfdcfnojnofaaGreatDoor.T
