import Derived.Test.YtnhfdcfnojnofaaGreatDoorAds1Z14
open Option renaming none->O,some->E
open Go.Value renaming slice->V,bool->G,string->gS,tuple->tp,int->it,agg->ag
open Go.Obj renaming cells->cl
open Go renaming World->H
open Go.Proofs.Tryz renaming prog->pg
open Go.Proofs.Tryz
set_option linter.unusedSimpArgs false
set_option linter.unusedVariables false
set_option maxHeartbeats 4000000
set_option maxRecDepth 100000
namespace Go.Proofs.YtnhfdcfnojnofaaGreatDoor
open Go.RowKit
section
variable {F:Fence} {n:Nat} {P:Program} {ops:Array Oper} {Q:Exit->Act->World->Prop} {md:Region.Mode} {fuel:Nat} {listed:Array Bool} {a:Act} {w:World}
theorem rj1 (i:Nat){o:Oper}(hr:Region.ready md ops listed= [i]:=by kernel_rfl)(ho:ops[i]? =some o:=by rfl)
 (h:∀K':Act->World->Prop,(∀a w,wpAnyIn F n P md ops Q fuel (listed.setIfInBounds i true) a w->K' a w)->if Region.wanted o (yielded ops a.tmps)=true then Oper.wpIn F n P o a w K' Q else(∀f,o.about P w a.eval=some f->F.fn f)/\K' (a.put o.dst undef) w):
 wpAnyIn F n P md ops Q (fuel+1) listed a w:=
 wpAnyIn_ready hr (by simp) (AllReadyIn.cons ho h AllReadyIn.nil)
theorem rj2 (i j:Nat){o o1:Oper}(hr:Region.ready md ops listed= [i,j]:=by kernel_rfl)(ho:ops[i]? =some o:=by rfl)(ho1:ops[j]? =some o1:=by rfl)
 (h:∀K':Act->World->Prop,(∀a w,wpAnyIn F n P md ops Q fuel (listed.setIfInBounds i true) a w->K' a w)->if Region.wanted o (yielded ops a.tmps)=true then Oper.wpIn F n P o a w K' Q else(∀f,o.about P w a.eval=some f->F.fn f)/\K' (a.put o.dst undef) w)
 (h1:∀K':Act->World->Prop,(∀a w,wpAnyIn F n P md ops Q fuel (listed.setIfInBounds j true) a w->K' a w)->if Region.wanted o1 (yielded ops a.tmps)=true then Oper.wpIn F n P o1 a w K' Q else(∀f,o1.about P w a.eval=some f->F.fn f)/\K' (a.put o1.dst undef) w):
 wpAnyIn F n P md ops Q (fuel+1) listed a w:=
 wpAnyIn_ready hr (by simp) (AllReadyIn.cons ho h (AllReadyIn.cons ho1 h1 AllReadyIn.nil))
variable {S:World->Prop}
theorem rd2 (i j:Nat){o o1:Oper}(hr:Region.ready md ops listed= [i,j]:=by kernel_rfl)(ho:ops.toList[i]? =some o:=by rfl)(ho1:ops.toList[j]? =some o1:=by rfl)
 (h:∀K':Act->World->Prop,Back P ops Q md S fuel (listed.setIfInBounds i true) K'->if Region.wanted o (yielded ops a.tmps)=true then Oper.wp P o a w K' Q else K' (a.put o.dst undef) w)
 (h1:∀K':Act->World->Prop,Back P ops Q md S fuel (listed.setIfInBounds j true) K'->if Region.wanted o1 (yielded ops a.tmps)=true then Oper.wp P o1 a w K' Q else K' (a.put o1.dst undef) w):wpAnyH P md ops Q S (fuel+1) listed a w:=
 wpAnyH_ready hr (by simp) (rdc (ho:=ho) (h:=h) (hs:=rdc (ho:=ho1) (h:=h1) (hs:=AllReadyH.nil)))
end
end Go.Proofs.YtnhfdcfnojnofaaGreatDoor
namespace Go.Proofs.YtnhfdcfnojnofaaGreatDoor
open Go.RowKit
theorem zdF (a b:List UInt8):qZ (a++b)=(qZ a&&qZ b):=by simp[qZ]
theorem znj (a b:List UInt8)(h:∀c∈a,c≠47):Lib.index (a++47::b) [47]=a.length:=by
 induction a with
 |nil=>simp[Lib.index]
 |cons c a d=>
  have d:=d (fun e f=>h e (Zu _ f));have e:=h c ZS;simp only[Q5,Lib.index,d];have d:([47]:List UInt8).isPrefixOf (c::(a++47::b))=false:=by
   simp[List.isPrefixOf,Qi e]
  rw[d];have d:((a.length:Int) == -1)=false:=by
   rw[qO];omega
  rw[d];simp
theorem cut_at (a b:List UInt8)(h:∀c∈a,c≠47):Lib.cut (a++47::b) [47]=(a,b,true):=by
 unfold Lib.cut;rw[znj a b h,z8 om];simp
theorem Row.keep {w w':H}{b o c n:Nat}{ds:List Nat}(h:Row w b o ds)(d:Upd b c n w w')(e:o+ds.length<=c\/c+n<=o):Row w' b o ds:=
 fun i c=>(d.cell (o+i) om).trans (h i c)
theorem Row.splice {w w':World}{b off j:Nat}{L W:List Nat}(h:Row w b off L)(hu:Upd b (off+j) W.length w w')(hW:Row w' b (off+j) W)(hj:j+W.length<=L.length):Row w' b off (splice L W j):=by
 have h1:Row w' b off (L.take j):=(h.take j).keep hu (Or.inl (by simp;omega));have hl:(L.take j).length=j:=by simp;omega
 refine h1.append ?_;rw[hl];refine hW.append ?_;have h2:=(h.drop (j+W.length)).keep hu (Or.inr (by omega));rw[show off+j+W.length=off+(j+W.length)by omega];exact h2
structure Two (b c:Nat)(w w':H):Prop where
 os:w'.os=w.os
 tape:w'.tape=w.tape
 output:w'.output=w.output
 size:w'.heap.size=w.heap.size
 block:∀k,k≠b->k≠c->w'.heap[k]? =w.heap[k]?
 frozen:∀k j,w'.frozen? ⟨k,j,O⟩=w.frozen? ⟨k,j,O⟩
theorem Two.refl (b c:Nat)(w:H):Two b c w w:=⟨rfl,rfl,rfl,rfl,fun _ _ _=>rfl,fun _ _=>rfl⟩
theorem Two.trans {b c:Nat}{u v w:H}(h:Two b c u v)(k:Two b c v w):Two b c u w:=
 ⟨k.os.trans h.os,k.tape.trans h.tape,k.output.trans h.output,k.size.trans h.size,fun i d e=>(k.block i d e).trans (h.block i d e),fun i j=>(k.frozen i j).trans (h.frozen i j)⟩
theorem Upd.frozenAll {b c n:Nat}{w w':H}(h:Upd b c n w w')(k j:Nat):w'.frozen? ⟨k,j,O⟩=w.frozen? ⟨k,j,O⟩:=by
 by_cases c:k=b
 ·subst c;exact h.frozen j
 ·exact zt (w:=w) (h.block k c)
theorem Upd.two {b d n:Nat}{w w':H}(h:Upd b d n w w')(c:Nat):Two b c w w':=⟨h.os,h.tape,h.output,h.size,fun k d _=>h.block k d,h.frozenAll⟩
theorem Upd.two' {b d n:Nat}{w w':H}(h:Upd b d n w w')(c:Nat):Two c b w w':=⟨h.os,h.tape,h.output,h.size,fun k _ d=>h.block k d,h.frozenAll⟩
theorem Two.drewN {b c:Nat}{u w:H}(h:Two b c u w)(n:Nat):Two b c u (w.drewN n):=⟨h.os,h.tape,h.output,h.size,h.block,h.frozen⟩
theorem Two.row {b c k o:Nat}{w w':H}{ds:List Nat}(h:Two b c w w')(d:k≠b)(e:k≠c)(g:Row w k o ds):Row w' k o ds:=
 fun i f=>(zP (w:=w) (h.block k d e)).trans (g i f)
theorem Two.free {b c k o n:Nat}{w w':H}(h:Two b c w w')(d:zbE w k o n):zbE w' k o n:=fun i e=>(h.frozen _ _).trans (d i e)
theorem Two.below {b c B:Nat}{w w':H}(h:Two b c w w')(d:B<=b)(e:B<=c):Below B w w':=⟨h.os,h.tape,h.output,Z1 h.size.symm,fun k d=>h.block k om om⟩
theorem zkS (K:Nat)(hK:K<=1073741800):LongOK K:=by
 intro w cH cI b7 n hu hv hm bK cs bJ;obtain⟨Y,bW,hd,ht,b4,hl⟩:=zaj hu hm;obtain⟨m,s,a7,aZ,b5,co⟩:=zaj hv (zr bK hm);have cr:1<m.length:=Top.ge a7 (by rw[b5];simpa using bJ);obtain⟨t,hes⟩:∃t,m.length=t+2:=⟨m.length-2,om⟩;have au:m.length<=Y.length:=by
  rcases Z8 Y.length m.length with aB|aB
  ·have:=aZ.lt_of_len hd aB;omega
  ·exact aB
 have bz:Y≠ []:=by intro e;rw[e,hes]at au;simp at au
 have aK:m≠ []:=by intro e;rw[e]at hes;simp at hes
 have bZ:=aZ (t+1) hes;have cx:=a7.get (t+1);obtain⟨C,hs,bS,bQ,bR⟩:=zkP (Zm bZ) cx;obtain⟨o,g⟩:=by_bd a7 hes bQ bR;have bq:0<2^C:=zac dc;have cd:2^C<=2147483648:=qz (n:=2) dc hs;rw[b5]at o g;have W:=s;have b3:=bW;obtain⟨_,_,rfl,ci,bN⟩:=s;obtain⟨_,_,rfl,ch,bP⟩:=bN aK;obtain⟨_,_,rfl,hc,hr⟩:=bW;have cj:=bP (t+1) om;have aX:b7<4294967296^Y.length:=by rw[<-b4];exact val_lt hd
 obtain⟨M,hM⟩:∃M,Y.length=M:=⟨_,rfl⟩;rw[hes]at au cr co W ci⊢;rw[hM]at au hl b3 hc aX⊢;generalize cy:m.getD (t+1) 0=cA at *;have aW:=fun c6=>Tryz.bits_LeadingZeros32 (cA:Int) c6 om om
 rw[jJ,bS]at aW;have af:=zi o;have aA:=zi g;have c3:=zi aX;clear hr bN o g bZ bQ bR bS hm bK cs bJ ht aZ aX;go_enter func226,ntmps226
 go_wp2_with fail
 refine(aW _).mono ?_;rintro e w0 ⟨rfl,rfl⟩;go_wp2_with fail
 refine(zgm _ _ Y C hs b3 bz hd om).mono ?_;rintro e w1 ⟨c,L0,rfl,aE,c9,bn,aD,bo,o,bE,a8⟩;rw[hM]at aE aD;rw[hM];go_wp2_with fail
 refine(zgm _ _ m C hs (W.below o) aK a7 om).mono ?_;rintro e w2 ⟨i,l,rfl,bh,bf,aC,bg,bi,g,ck,bC⟩;rw[hes]at bh bg;rw[hes];go_wp2_with fail
 refine(trim_any _ _ _ _ _ l om om om aC).mono ?_;rintro e w3 ⟨rfl,rfl⟩;have v:=bf.take (Q6 l (t+2+1));have ak:=zfx l (t+2+1) om;have N:=val_trimL l (t+2+1) om;rw[zy (show l.length<=t+2+1 by omega),bi,b5]at N;have aj:=aC.take (Q6 l (t+2+1));obtain⟨x,ai⟩:=zl2 v ak N af.out aA.out;have b0:Q6 l (t+2+1)=t+2:=by
  have:=zgv l (t+2+1);rw[zU]at x;omega
 rw[b0]at v ak N aj x ai;rw[b0];obtain⟨F,hF⟩:∃F,l.take (t+2)=F:=⟨_,rfl⟩;rw[hF]at v ak N aj x ai;clear hF b0 bf aC bg bi bh ak;have bI:=zkQ aE om (b4▸bo) c3.out bq cd af.out;obtain⟨i0,R,c0,c1,c2⟩:=qL Tryz.info131;obtain⟨f,hk0⟩:∃f,M-(t+2)+1=f:=⟨_,rfl⟩;have bl:=zi bI;clear bI;go_wp2_with (at_make;refine zgw _ rfl _ _ 99 rfl 224 i0 underlying99 R c0 c1 c2 _ _ _ _ f rfl rfl om om om ?_;intro D bp aG a6 bU)
 have aM:i≠w3.heap.size:=om;have a2:c≠w3.heap.size:=by have:=g.size;omega
 have al:i≠c:=om;have ca:=(bn.below g a8).below a6 (zv a8 g.size);have bj:=aj.below a6 bC;have bm:zbE D c 0 (M+1):=fun B R=>(a6.frozen (p:=⟨c,0+B,O⟩) (zv a8 g.size)).trans ((g.frozen (p:=⟨c,0+B,O⟩) a8).trans (aD B R))
 have cg:=o.trans ((g.trans (a6.mono g.size)).mono o.size);have bF:=zL o.size g.size;have cm:i<D.heap.size:=om;obtain⟨d,hgQ⟩:∃d,w3.heap.size=d:=⟨_,rfl⟩;rw[hgQ]at bp aG bU aM a2 bF;rw[hgQ];clear R c0 c1 c2 hv W ch bP hu b3 cj bn aj aD o g a6 aW cy a7 hd hes bz aK a8 ck bC;obtain⟨k,hV⟩:∃k,2^C*n=k:=⟨_,rfl⟩;have HV:=zi hV;rw[hV]at N af aA bl;clear hV;have br:=aA.out;have ah:=zi N;clear N;have bc:=zi br;clear br;go_loopw [9] (fun iv wr=>∃(X:Nat) (L Q:List Nat),X<=f/\iv=it .i64 ((X:Int)-1)/\Hid (L.length=M+1)/\Dig L/\Row wr c 0 L/\Hid (Q.length=f)/\Dig Q/\Row wr d 0 Q/\Two c d D wr/\
  Hid (val L0=val L+k*(4294967296^X*val (Q.drop X)))/\Hid (val (L.drop X)<k)) (fun iv _=>(intOf iv+1).toNat)
 case atStart=>exact⟨f,L0,List.replicate f 0,zh _,rfl,aE,c9,ca,by simp[Hid],(fun cB hd=>by rw[List.eq_of_mem_replicate hd];decide),bp,Two.refl _ _ _,by rw[Hid,Z6 sp];simp[val],by rw[Hid,show f=M-t-1 by omega];exact bl.out⟩
 case round=>
  obtain⟨X,L,Q,_,rfl,T,a9,av,z,aY,aw,r,a3,aa⟩:=hrel;cases X with
  |zero=>
   have bX:val L0=2^C*b7:=by rw[bo,b4]
   obtain⟨y,bO⟩:=znh (S:=2^C) (m:=b7) (n:=n) (r:=val L) (q:=val Q) bq (by
    have:=a3.out;rw[bX,Zd,Nat.pow_zero,Qy,<-HV.out]at this;exact this) (by have:=aa.out;rw[Zd,<-HV.out]at this;exact this)
   have c4:=zi y;have c5:=zi bO;have bL:=r.free aG;have aV:=r.free bm;have bT:=ziq wr c 0 (M+1) C L hs (by rw[T.out];omega) (by rw[T.out];omega) av (by rw[T.out];exact aV) a9;rw[T.out]at bT;have cn:d<wr.heap.size:=by rw[r.size];exact bU
   clear y bO a3 aa bX;go_wp2_with fail
   refine(trim_any _ d 0 f f Q (zh _) om (by rw[z.out];omega) aw).mono ?_;rintro e w5 ⟨rfl,rfl⟩;go_wp2_with fail
   refine bT.mono ?_;rintro e u ⟨rfl,L',aS,cp,aT,aU,cq⟩;go_wp2_with fail
   refine(trim_any _ c 0 (M+1) (M+1) L' (zh _) om om aT).mono ?_;rintro e I ⟨rfl,rfl⟩;go_wp2_with fail
   go_ret2;have ad:=aU.other (fun e=>a2 e.symm) aw;refine⟨_,_,rfl,?_,?_,?_⟩;·rw[<-c4.out];exact natV_trim ad aY (by rw[aU.size];exact cn) z.out (zh _)
   ·rw[<-c5.out,<-cq];exact natV_trim aT cp (block_of_row aT (by intro e;rw[e]at aS;simp at aS)) aS (zh _)
   ·exact cg.trans ((r.below bE bF).trans (aU.below bE))
  |succ j=>
   have aR:j+(t+2)+1<=L.length:=by rw[T.out];omega
   obtain⟨ay,bY,b6⟩:=zkG a9 aR aa.out bc.out;obtain⟨J,hWd0⟩:∃J,(L.drop j).take (t+2+1)=J:=⟨_,rfl⟩;have a1:J.length=t+3:=by rw[<-hWd0,zU,qu];omega
   have bw:Row wr c j J:=by have:=(av.drop j).take (t+2+1);rw[hWd0,qi]at this;exact this
   have aq:Dig J:=by rw[<-hWd0];exact(a9.drop j).take _
   rw[hWd0]at ay;have bk:=r.row al aM bj;have hX:=top_le a1 x v ay ah.out b6;have aV:=r.free bm;have bv:zbE wr c j (t+3):=fun B R=>by have:=aV (j+B) om;rwa [qi]at this
   have bH:=zht wr c j (M+1-j) i 0 (t+2+1) t J F a1 x om om om bw bk aq v ai hX _ _ _ _ rfl rfl rfl rfl;have bD:i<wr.heap.size:=by rw[r.size];exact cm
   have bL:=r.free aG;have cC:wr.cell? ⟨d,j,O⟩=E (it .u32 ((Q.getD j 0:Nat):Int)):=by have:=aw j (by rw[z.out];omega);rwa [qi]at this
   have ct:wr.frozen? ⟨d,j,O⟩=false:=by have:=bL j om;rwa [qi]at this
   have aQ:j<f:=om;have a5:=zi ay;have bt:=zi bY;have cf:=zi b6;have be:=zi hWd0;clear ay bY b6 hX hWd0;go_wp2_with fail
   rw[show j+(t+2)+1-j=t+3 by omega];refine bH.mono ?_;rintro e w5 ⟨h,rfl,aL,bA,bB,nq,rfl⟩;obtain⟨aN,bG⟩:=zkR a1 x aq v a5.out ah.out ai cf.out rfl rfl rfl rfl bA aL bB;have bV:=zfe (wr.drewN nq) c j (M+1-j) h J F (V (E ⟨i,0,O⟩) (t+2) (t+2+1)) om om om aL bw (by rw[a1];exact bv) aq
    ⟨_,t+2+1,by rw[x],om,fun _=>⟨i,0,rfl,bD,al,bk⟩⟩ v
   rw[a1]at bV;clear bA bB bH;go_wp2_with fail
   refine bV.mono ?_;rintro e u ⟨W1,cz,rfl,hr,a0,aI,bs,U,s⟩;rw[a5.out,ah.out]at s;have aH:0<k:=by
    have:=af.out;have:=pow_pos (t+1);generalize 4294967296^(t+1)=P at *;omega
   have Z:=val_lt aI;rw[a0]at Z;have ae:val (L.drop j)<4294967296^(t+3):=by
    have:=val_lt aq;rw[a5.out,a1]at this;exact this
   have an:k<4294967296^(t+3):=zv bc.out (pow_mono om);have b1:=(r.drewN nq).trans (U.two d);have cb:=Row.splice (w:=wr.drewN nq) av (by rw[qi,a0];exact U) (by rw[qi];exact bs) (by rw[a0];omega);have ad:=U.other (fun e=>a2 e.symm) aw;have c8:=b1.row al aM bj;have cD:u.cell? ⟨d,j,O⟩=E (it .u32 ((Q.getD j 0:Nat):Int)):=by have:=ad j (by rw[z.out];omega);rwa [qi]at this
   have cu:=(U.frozenAll d j).trans ct;have ar:j<Q.length:=by rw[z.out];exact aQ
   by_cases aO:h<=val (L.drop j)/k
   ·obtain⟨rfl,y,ab⟩:=zl3 aH aN aO Z s ae;obtain⟨s1,s2⟩:=zhU aR om ar (by rw[be.out];exact a5.out) bt.out y a3.out;have a4:=ad.setCell j h ar;have A:=(Upd.refl d 0 f u).setCell j aQ (it .u32 (h:Int));simp only[qi]at a4 A;have aF:=A.other a2 cb;have b2:=b1.trans (A.two' c);have S1:=zi s1;have S2:Hid (val ((splice L W1 j).drop j)<k):=by rw[Hid,s2];exact ab
    clear s1 s2 y ab s ae an aN bG aO a3 aa Z;go_wp2_with fail
    go_roundw
    case rel=>exact⟨j,splice L W1 j,Q.set j h,om,by go_num,by rw[Hid,zeY (by rw[a0];omega),T.out],zgT a9 aI,aF,by rw[Hid,Zf,z.out],aY.set _ _ aL,a4,b2,S1,S2⟩
    case measure=>simp[intOf]
   ·have aP:h=val (L.drop j)/k+1:=om;obtain⟨_,_,az⟩:=zh2 (b:=0) (c:=0) aH aP Z s ae an;have cG:(0:Int)<(cz:Int):=om;have bx:=zeB u c j (M+1-j) W1 F (V (E ⟨i,0,O⟩) (t+2) (t+2+1)) om om om bs (by rw[a0];exact fun B R=>(U.frozenAll c (j+B)).trans (bv B R)) aI
     ⟨_,t+2+1,by rw[x],om,fun _=>⟨i,0,rfl,by rw[U.size];exact bD,al,c8⟩⟩ v
    rw[a0]at bx;have ba:=zi s;have b8:=zi aP;have b9:=zi ae;have bb:=zi an;have bd:=zi Z;clear az s aP ae an Z aN bG aO;go_wp2_with fail
    refine bx.mono ?_;rintro e I ⟨rfl,W2,c7,ap,bu,ce,ax,W⟩;rw[ah.out]at W;have aJ:=val_lt bu;rw[ap]at aJ;obtain⟨_,_,az⟩:=zh2 (b:=val W2) (c:=c7) aH b8.out bd.out ba.out b9.out bb.out;obtain⟨y,ab⟩:=az aJ W;have b2:=b1.trans (ax.two d);have cw:=U.trans ax;have aF:=Row.splice (w:=wr.drewN nq) av (by rw[qi,ap];exact cw) (by rw[qi];exact ce) (by rw[ap];omega);have bM:=ax.other (fun e=>a2 e.symm) ad;have cE:I.cell? ⟨d,j,O⟩=E (it .u32 ((Q.getD j 0:Nat):Int)):=by have:=bM j (by rw[z.out];omega);rwa [qi]at this
    have cF:=(ax.frozenAll d j).trans cu;obtain⟨s1,s2⟩:=zhU (q:=h-1) aR om ar (by rw[be.out];exact a5.out) bt.out y a3.out;have a4:=bM.setCell j (h-1) ar;have A:=(Upd.refl d 0 f I).setCell j aQ (it .u32 ((h-1:Nat):Int));rw[show((h-1:Nat):Int)=(h:Int)-1 by omega]at a4 A;simp only[qi]at a4 A;have cc:=A.other a2 aF;have cv:=b2.trans (A.two' c);have S1:=zi s1;have S2:Hid (val ((splice L W2 j).drop j)<k):=by rw[Hid,s2];exact ab
    clear s1 s2 y ab W aJ az a3 aa ba b8 b9 bb bd;go_wp2_with fail
    go_roundw
    case rel=>exact⟨j,splice L W2 j,Q.set j (h-1),om,by go_num,by rw[Hid,zeY (by rw[ap];omega),T.out],zgT a9 bu,cc,by rw[Hid,Zf,z.out],aY.set _ _ om,a4,cv,S1,S2⟩
    case measure=>simp[intOf]
theorem zkT (a:List UInt8)(h:∀c∈a,c≠47):Lib.index a [47]=-1:=by
 induction a with
 |nil=>simp[Lib.index]
 |cons c a b=>
  have b:=b (fun d e=>h d (Zu _ e));have d:=h c ZS;simp only[Lib.index,b];have b:([47]:List UInt8).isPrefixOf (c::a)=false:=by
   simp[List.isPrefixOf,Qi d]
  rw[b];simp
theorem zgD (a:List UInt8)(h:∀c∈a,c≠47):Lib.cut a [47]=(a,[],false):=by
 unfold Lib.cut;rw[zkT a h,zW om]
def digT (l:List UInt8):List UInt8:=if l= []\/l.head? =E 48 then 55::l else l
def wT (z:Int):ByteArray:=⟨(Lib.itoa z).toArray⟩
def KC (op:Int)(s t r:ByteArray):Prop:=∀W,Gl W->Calls pg 22 #[it .i64 op,gS s,gS t] W fun e w'=>e= .returned (gS r)/\Below W.heap.size W w'
def digL (l:List UInt8)(k:Nat):List UInt8:=(l.take k).map fun c=>UInt8.ofNat (48+c.toNat%10)
theorem qN (s:ByteArray):s.data.toList.length=s.size:=Array.length_toList
theorem zgE {s:ByteArray}(h:s≠⟨#[]⟩):s.toList.isEmpty=false:=by
 rw[<-Go.decide_eq_emptyBytes];exact ZB h
end Go.Proofs.YtnhfdcfnojnofaaGreatDoor
namespace Go.Proofs.YtnhfdcfnojnofaaGreatDoor.T
open Go.RowKit
theorem pow4 (i:Nat):10000^i=10^(4*i):=by rw[Nat.pow_mul]
theorem ze2 {s:ByteArray}{l:List UInt8}(h:s.data.toList=l):s=⟨l.toArray⟩:=by
 subst h;rfl
theorem znk {s:ByteArray}{c:UInt8}{l:List UInt8}(h:s=⟨(c::l).toArray⟩)(b:0<s.size):s[0]=c:=by
 subst h;rfl
theorem znl {L:List UInt8}{a b j:Nat}{os:List Nat}(f:a<=b)(c:b<=L.length)(g:L.length=4*j+b)(d:os.length=j)(e:val os=qd (L.drop b)):
 val (os ++ [qd ((L.drop a).take (b-a))])=qd (L.drop a):=by
 have c:L.drop a=(L.drop a).take (b-a)++L.drop b:=by
  conv=>lhs;rw[<-Qf (b-a) (L.drop a),j7,show a+(b-a)=b by omega]
 conv=>rhs;rw[c]
 rw[zff,val_append,zbY,d,e,qu,show L.length-b=4*j by omega,pow4,Qg,za0]
theorem zoe {L:List UInt8}{a b:Nat}(d:a<=b)(h1:qZ ((L.drop a).take (b-a))=true)(c:qZ (L.drop b)=true):qZ (L.drop a)=true:=by
 have h:L.drop a=(L.drop a).take (b-a)++L.drop b:=by
  conv=>lhs;rw[<-Qf (b-a) (L.drop a),j7,show a+(b-a)=b by omega]
 rw[h,zdF,h1,c];rfl
theorem seg_lt {L:List UInt8}{a t:Nat}(b:t<=4)(h1:qZ ((L.drop a).take t)=true):qd ((L.drop a).take t)<10000:=by
 have b:=zcz h1;have b:10^((L.drop a).take t).length<=10^4:=qz om (by rw[zU];omega);omega
theorem znm {L:List UInt8}{a t:Nat}(h:a+t<L.length):(L.drop a).take (t+1)=(L.drop a).take t ++ [L[a+t]]:=by
 rw[Zh (by rw[qu];omega)];simp
theorem zof {L:List UInt8}{I:Nat}(h:I<L.length)(b:zch L[I]=false):qZ L=false:=by
 unfold qZ;rw[QT];exact⟨L[I],zZ h,by simp[b]⟩
theorem zkU (s:ByteArray)(m:Nat)(w:H)(Y:0<s.size)(h1:s.size<=m)(hm:m<=1000000):
 Calls pg 182 #[gS s,it .i64 (m:Nat)] w fun e w'=>∃x,e= .returned (tp #[x,G (qZ s.data.toList)])/\(qZ s.data.toList=true->NV w' x (qd s.data.toList))/\(qZ s.data.toList=false->x=V O 0 0)/\Below w.heap.size w w':=by
 obtain⟨i0,hi,aj,ak,al⟩:=qL Tryz.infoInt;have aA:s.toList.isEmpty=false:=zgE (fun e=>by rw[e]at Y;exact absurd Y dc);obtain⟨L,hL⟩:∃L,s.data.toList=L:=⟨_,rfl⟩;have au:L.length=s.size:=by rw[<-hL];exact qN s
 have Z:∀(I:Nat) (h:I<s.size),s[I]=L[I]' om:=by
  intro I h;subst hL;rfl
 rw[hL];have HG:=zi Z;have az:¬m<s.size:=om;clear Z;go_enter func182,ntmps182
 go_wp2;go_loopw [6,7] (fun lv D wr=>∃(e:Int) (b:List Nat) (y:Option Addr) (C:Nat),lv=V y b.length C/\D=it .i64 e/\-4<=e/\Hid ((s.size:Int)=4*b.length+e)/\wr.ownsRow w.heap.size 3 1 (V y b.length C) b.length (b.map encD)/\Dig b/\Hid (qZ (L.drop e.toNat)=true)/\Hid (val b=qd (L.drop e.toNat))/\Below w.heap.size w wr) (fun _ D _=>(intOf D+4).toNat)
 case atStart=>exact⟨(s.size:Int),[],O,0,rfl,rfl,om,by simp[Hid],Ze _ _ _ _,fun ao hd=>by simp at hd,by rw[Hid,Z6 om];rfl,by rw[Hid,Z6 om];rfl,zR _ _⟩
 case round=>
  obtain⟨e,b,y,C,rfl,rfl,_,r,K,a0,z,A,q⟩:=hrel;by_cases he:0<e
  ·obtain⟨c,rfl⟩:∃c:Nat,e=(c:Int):=⟨e.toNat,om⟩;have hE:c<=L.length:=by have:=r.out;omega
   have ad:b.length<=1000000:=by have:=r.out;omega
   obtain⟨a,ha⟩:∃a,a=c-4:=⟨_,rfl⟩;go_wp2_with fail
   go_loopw [8,9] (fun nv M wq=>∃(i:Int) (x:Nat),nv=it .i64 (x:Nat)/\M=it .i64 i/\(c:Int)-4<=i/\i<=(c:Int)/\x<10000/\Hid (qZ ((L.drop a).take (i.toNat-a))=true)/\Hid (x=qd ((L.drop a).take (i.toNat-a)))/\wr=wq) (fun _ M _=>((c:Int)-intOf M).toNat)
   case atStart=>
    have g:((c:Int)-4).toNat-a=0:=om;exact⟨(c:Int)-4,0,rfl,rfl,om,om,om,by rw[g];rfl,by rw[g];rfl,rfl⟩
   case round=>
    obtain⟨i,x,rfl,rfl,_,_,B,p,u,rfl⟩:=hrel;by_cases ax:i<(c:Int)
    ·by_cases aw:i<0
     ·have v:Hid ((i+1).toNat-a=i.toNat-a):=by rw[Hid];omega
      go_wp2;go_roundw
      case rel=>exact⟨i+1,x,rfl,by go_num,om,om,B,by rw[v.out];exact p,by rw[v.out];exact u,by first|rfl|trivial⟩
      case measure=>simp[intOf];omega
     ·obtain⟨I,rfl⟩:∃I:Nat,i=(I:Int):=⟨i.toNat,om⟩;have a7:I<s.size:=om;have aq:(I:Int)<(s.size:Int):=om;have ar:¬(I:Int)<0:=om;have J:=HG.out I a7;obtain⟨t,ht⟩:∃t,t=I-a:=⟨_,rfl⟩;have a8:a+t=I:=om;have aB:t<4:=om;have a3:Hid ((I:Int).toNat-a=t):=by rw[Hid,ht];rfl
      have W:Hid (((I:Int)+1).toNat-a=t+1):=by rw[Hid];omega
      have o:Hid ((L.drop a).take (t+1)=(L.drop a).take t ++ [s[I]]):=by
       rw[Hid,znm om,J];simp only[a8]
      have l:Hid (zch s[I]=false->qZ L=false):=fun hb=>zof (I:=I) om (by rw[<-J];exact hb)
      clear J;by_cases ay:(s[I].toNat:Int)<48
      ·have k:Hid (false=qZ L):=(l.out (by unfold zch;simp;omega)).symm;clear o l;go_wp2;go_ret2;exact⟨V O 0 0,by rw[<-k.out];rfl,fun h=>absurd (k.out.trans h) dc,fun _=>rfl,q⟩
      ·by_cases av:57<(s[I].toNat:Int)
       ·have k:Hid (false=qZ L):=(l.out (by unfold zch;simp;omega)).symm;clear o l;go_wp2;go_ret2;exact⟨V O 0 0,by rw[<-k.out];rfl,fun h=>absurd (k.out.trans h) dc,fun _=>rfl,q⟩
       ·have U:Hid (zch s[I]=true):=by rw[Hid];unfold zch;simp;omega
        have d:=p.out;have f:=u.out;rw[a3.out]at d f;have N:Hid (qZ ((L.drop a).take (t+1))=true):=by
         rw[Hid,o.out,zdF,d];simp[qZ,U.out]
        have X:Hid (10*x+(s[I].toNat-48)=qd ((L.drop a).take (t+1))):=by
         rw[Hid,o.out,zgj,<-f,Qg]
        have ai:10*x+(s[I].toNat-48)<10000:=by
         rw[X.out];exact seg_lt om N.out
        clear o l U d f p u;go_wp2;go_roundw
        case rel=>exact⟨(I:Int)+1,10*x+(s[I].toNat-48),by congr 1;omega,by go_num,om,om,ai,by rw[W.out];exact N,by rw[W.out];exact X,by first|rfl|trivial⟩
        case measure=>simp[intOf];omega
    ·obtain rfl:i=(c:Int):=om;have v:Hid ((c:Int).toNat-a=c-a):=by rw[Hid];rfl
     have d:=p.out;have f:=u.out;rw[v.out]at d f;have T:Hid (((c:Int)-4).toNat=a):=by rw[Hid];omega
     have a2:Hid (qZ (L.drop a)=true):=zoe om d z.out;have a5:Hid (val (b ++ [x])=qd (L.drop a)):=by
      rw[Hid,f];exact znl (j:=b.length) om hE (by have:=r.out;omega) rfl A.out
     clear p u d f z A;go_wp2_with (at_builtin;refine qQ _ rfl _ _ 35 rfl w.heap.size 3 i0 (it .i64 0) 1 8 underlying35 hi aj ak al rfl dc (V y b.length C) b.length (b.map encD) rfl (K.alloc _) ⟨wr.heap.size,0,O⟩ 1 1 [it .i64 (x:Int)] rfl rfl (Z4 _ _ _) ?c2 mo om (by have:=q.size;simp;omega) ?_)
     case c2=>first|rfl|(intro aC hu;simp at hu;subst hu;rfl)
     intro v3 w3 af aa ab;obtain⟨an,a1,ae,a6,_,rfl,ah,a9⟩:=Jf K q af aa ab rfl;go_wp2;go_roundw
     case rel=>
      refine⟨(c:Int)-4,an,_,a6,rfl,rfl,om,by rw[Hid,ae];have:=r.out;omega,ah,by rw[a1];exact zak a0 B,by rw[T.out];exact a2,?_,a9⟩;rw[T.out,a1];exact a5
     case measure=>simp[intOf];omega
  ·have g:e.toNat=0:=om;have R:Hid (true=qZ L):=by
    have:=z.out;rw[g,Zd]at this;exact this.symm
   have a4:Hid (val b=qd L):=by
    have:=A.out;rw[g,Zd]at this;exact this
   have ad:b.length<=1000000:=by have:=r.out;omega
   clear z A g;go_wp2_with fail
   refine(trim_any _ _ b (JC K) om).mono ?_;rintro e w3 ⟨⟨x,rfl,B⟩,rfl⟩;go_wp2;go_ret2;exact⟨x,by rw[<-R.out];rfl,fun _=>zd2 B a0 a4.out,fun h=>absurd (R.out.trans h) dc,q⟩
theorem zkV (s:ByteArray)(m:Nat)(w:H)(h:s=⟨#[]⟩\/m<s.size)(hs:s.size<=9223372036854775807)(b:m<=1000000):
 Calls pg 182 #[gS s,it .i64 (m:Nat)] w fun e w'=>e= .returned (tp #[V O 0 0,G false])/\w'=w:=by
 by_cases b:s=⟨#[]⟩
 ·subst b;go_enter func182,ntmps182
  go_wp2;go_ret2;exact⟨rfl,rfl⟩
 ·have c:=zgE b;have c:(m:Int)<(s.size:Int):=by
   rcases h with h|h
   ·exact absurd h b
   ·omega
  go_enter func182,ntmps182
  go_wp2;go_ret2;exact⟨rfl,rfl⟩
theorem znn (n:Nat)(h1:0<n)(c:n<10000)(w:H):Calls pg 69 #[it .i64 (n:Int)] w fun e w'=>∃t,e= .returned t/\qe w' t (n:Int) 1/\Below w.heap.size w w':=by
 obtain⟨s,i,j,o,q⟩:=qL Tryz.infoInt;have u:qk (w.alloc (cl #[G false,V O 0 0,V O 0 0] 118)) w.heap.size (G false) (V O 0 0) (V O 0 0):=qk.new _ _ _ _ _;have k:Below w.heap.size w (w.alloc (cl #[G false,V O 0 0,V O 0 0] 118)):=(zR _ _).alloc (zh _) _;have c:(n:Int).tmod 10000=(n:Int):=Int.tmod_eq_of_lt om om;have c:(n:Int).tdiv 10000=0:=Int.tdiv_eq_zero_of_lt om om;generalize d:w.alloc (cl #[G false,V O 0 0,V O 0 0] 118)=c at *;go_enter func69,ntmps69
 go_wp2;clear d;go_loopw [0,3] (fun g h wr=>(g=it .i64 (n:Int)/\h=V O 0 0/\c=wr)\/∃d l f,g=it .i64 0/\h=V d l f/\NV wr (V d l f) n/\Below c.heap.size c wr) (fun g _ _=>(intOf g).toNat)
 case atStart=>exact Or.inl ⟨rfl,rfl,rfl⟩
 case round=>
  rcases hrel with ⟨rfl,rfl,rfl⟩|⟨d,l,f,rfl,rfl,r,m⟩
  ·go_wp2_with (at_builtin;refine qQ _ rfl _ _ 35 rfl c.heap.size 3 s (it .i64 0) 1 8 underlying35 i j o q rfl dc (V O 0 0) 0 [] rfl (Ze _ _ _ _) ⟨c.heap.size,0,O⟩ 1 1 [it .i64 (n:Int)] rfl rfl (Z4 _ _ _) ?c2 mo om sp ?_)
   case c2=>first|rfl|(intro g g;simp at g;subst g;rfl)
   intro g h g o q;obtain⟨j,i,s,_⟩:=owns_parts (ds:= [n]) g q;subst s;have s:=((zR _ _).alloc (zh _) _).grown o sp (fun c c=>by simp[Value.ownBlock]at c);have x:Sl h (V (E ⟨j,0,O⟩) 1 i) [n]:=JC (os:= [n]) g;have c:NV h (V (E ⟨j,0,O⟩) 1 i) n:=⟨[n],x,zf6 om,zf5 om,zbY n⟩;clear o q g;go_wp2;go_roundw
   case rel=>exact Or.inr ⟨_,_,_,rfl,rfl,c,s⟩
   case measure=>simp[intOf];try omega
  ·have c:=u.below m;have g:=k.trans (m.mono k.size);have h:=c;obtain⟨_,_,_,_,_,_,_⟩:=h;have j:=(qk.stored (b:=false) (a:=d) (l:=l) (k:=f) (a2:=E ⟨wr.heap.size,0,O⟩) (l2:=1) (k2:=1) c).alloc (cl #[it .i64 1] 3);obtain⟨h,i,c2,_,_,_,_⟩:=j;have j:Hid (false=decide ((n:Int)<0)):=by
    rw[Hid];simp
   go_wp2;exact zH (v:=ag #[G false,V d l f,V (E ⟨wr.heap.size,0,O⟩) 1 1]) (by simp[results,results69,go_sem,h,i,c2]) rfl ⟨_,rfl,zcQ (p:=(n:Int)) (by simpa using r) j c,
    (Z9 g (zh _) _ _ _).alloc (by have:=g.size;simp;omega) _⟩
end Go.Proofs.YtnhfdcfnojnofaaGreatDoor.T
