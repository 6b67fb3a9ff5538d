import Derived.Test.YtmimmcmbgnjjcaaGreatDoorFon1Z4
open Option renaming none->O,some->E
open Go.Value renaming slice->V,bool->G,string->gS,pointer->pn,int->it,agg->ag
open Go.Obj renaming cells->cl
open Go renaming World->H
open Go.Proofs.Tryz renaming prog->pg
open Go.Proofs.Tryz
open Go.Ending renaming returned->Xa
open Go.IntKind renaming i64->Xb
open Go.Addr renaming mk->Xd
set_option linter.unusedSimpArgs false
set_option linter.unusedVariables false
set_option maxHeartbeats 2000000
set_option maxRecDepth 100000
namespace Go.Proofs.YtmimmcmbgnjjcaaGreatDoor
section
open Go.RowKit
variable {b c k n o off:Nat}{w w':H}
theorem zhm(h:k<10):(UInt8.ofNat (48+k)).toNat=48+k:=by
 rw[UInt8.toNat_ofNat'];omega
theorem zk3(a b:List UInt8):Qm (a++b)=(Qm a&&Qm b):=by simp[Qm]
theorem zhY(n:Nat):Qm (Lib.decDigits n)=true:=by
 induction n using Nat.strongRecOn with
 |_ n d=>
  have b:∀k,k<10->Qm [UInt8.ofNat (48+k)]=true:=by
   intro k c;simp only[Qm,List.all_cons,List.all_nil,Bool.and_true,zhV,zhm c];simp;omega
  by_cases h:n<10
  ·rw[Lib.decDigits,dif_pos h];exact b n h
  ·rw[Lib.decDigits,dif_neg h,zk3,d (n/10) om,b (n%10) (Z0 _ om)];rfl
theorem zrL(n:Nat):ZE (Lib.decDigits n)=n:=by
 induction n using Nat.strongRecOn with
 |_ n b=>
  by_cases h:n<10
  ·rw[Lib.decDigits,dif_pos h];show ZE ([] ++ [_])=n
   rw[zf3,zhm h];simp[ZE]
  ·rw[Lib.decDigits,dif_neg h,zf3,b (n/10) om,zhm (Z0 _ om)];omega
theorem dig_ne{l:List UInt8}(h:Qm l=true):∀c∈l,c≠47/\c≠45:=by
 intro c b;have:=zgB (Zi.1 h c b);constructor
 ·rintro rfl;revert this;decide
 ·rintro rfl;revert this;decide
theorem zm2(n:Nat):Lib.hasPrefix (Lib.decDigits n) [45]=false:=by
 have h:=dig_ne (zhY n);cases hd:Lib.decDigits n with
 |nil=>rfl
 |cons c r=>
  have b:=(h c (by rw[hd];exact qA)).2;simp[Lib.hasPrefix,List.isPrefixOf,Qr b]
theorem zhn(z:Int):Lib.trimPrefix (Lib.itoa z) [45]=Lib.decDigits z.natAbs/\Lib.hasPrefix (Lib.itoa z) [45]=decide (z<0):=by
 unfold Lib.itoa;by_cases h:z<0
 ·rw[zQ h];constructor
  ·simp[Lib.trimPrefix,Lib.hasPrefix]
  ·simp[Lib.hasPrefix,h]
 ·rw[zO h];have e:z.toNat=z.natAbs:=om;rw[e];constructor
  ·rw[Lib.trimPrefix,zm2];rfl
  ·rw[zm2];simp[h]
theorem zrM(z:Int):sg (decide (z<0)) z.natAbs=z:=by
 unfold sg;by_cases h:z<0
 ·simp[h];omega
 ·simp[h];omega
def Gl (w:H):Prop:=Tab w/\∃mx,w.cell? (Xd 1 0 O)=E (it Xb mx)/\1<w.heap.size
theorem Gl.below(h:Gl w)(hb:Below w.heap.size w w'):Gl w':=by
 obtain⟨c,e,d,b⟩:=h;exact⟨c.below hb,e,(hb.cell (p:=(Xd 1 0 O)) b).trans d,zK b hb.size⟩
theorem Row.keep{ds:List Nat}(h:Row w b o ds)(d:Upd b off n w w')(c:o+ds.length<=off\/off+n<=o):Row w' b o ds:=
 fun i c=>(d.cell (o+i) om).trans (h i c)
theorem Row.splice{w w':World}{j:Nat}{L W:List Nat}(h:Row w b off L)(hu:Upd b (off+j) W.length w w')(hW:Row w' b (off+j) W)(hj:j+W.length<=L.length):Row w' b off (splice L W j):=by
 have h1:Row w' b off (L.take j):=(h.take j).keep hu (Or.inl (by simp;omega));have hl:(L.take j).length=j:=by simp;omega
 refine h1.append ?_;rw[hl];refine hW.append ?_;have h2:=(h.drop (j+W.length)).keep hu (Or.inr (by omega));rw[show off+j+W.length=off+(j+W.length)by omega];exact h2
structure Two (b c:Nat)(w w':H):Prop where
 os:w'.os=w.os
 tape:w'.tape=w.tape
 output:w'.output=w.output
 size:w'.heap.size=w.heap.size
 block:∀k,k≠b->k≠c->w'.heap[k]? =w.heap[k]?
 frozen:∀k j,w'.frozen? (Xd k j O)=w.frozen? (Xd k j O)
theorem Two.refl(b c:Nat)(w:H):Two b c w w:=⟨rfl,rfl,rfl,rfl,fun _ _ _=>rfl,fun _ _=>rfl⟩
theorem Two.trans{u v:H}(h:Two b c u v)(k:Two b c v w):Two b c u w:=
 ⟨k.os.trans h.os,k.tape.trans h.tape,k.output.trans h.output,k.size.trans h.size,fun i d e=>(k.block i d e).trans (h.block i d e),fun i j=>(k.frozen i j).trans (h.frozen i j)⟩
theorem Upd.frozenAll(h:Upd b off n w w')(k j:Nat):w'.frozen? (Xd k j O)=w.frozen? (Xd k j O):=by
 by_cases c:k=b
 ·subst c;exact h.frozen j
 ·exact qw (w:=w) (h.block k c)
theorem Upd.two(h:Upd b off n w w')(c:Nat):Two b c w w':=⟨h.os,h.tape,h.output,h.size,fun k d _=>h.block k d,h.frozenAll⟩
theorem Upd.two'(h:Upd b off n w w')(c:Nat):Two c b w w':=⟨h.os,h.tape,h.output,h.size,fun k _ d=>h.block k d,h.frozenAll⟩
theorem Two.drewN{u:H}(h:Two b c u w)(n:Nat):Two b c u (w.drewN n):=⟨h.os,h.tape,h.output,h.size,h.block,h.frozen⟩
theorem Two.row{ds:List Nat}(h:Two b c w w')(hb:k≠b)(d:k≠c)(f:Row w k o ds):Row w' k o ds:=
 fun i e=>(Zj (w:=w) (h.block k hb d)).trans (f i e)
theorem Two.free(h:Two b c w w')(d:zcj w k o n):zcj w' k o n:=fun i e=>(h.frozen _ _).trans (d i e)
theorem Two.below{B:Nat}(h:Two b c w w')(hb:B<=b)(d:B<=c):Below B w w':=⟨h.os,h.tape,h.output,jm h.size.symm,fun k d=>h.block k om om⟩
theorem znB(K:Nat)(hK:K<=1073741800):LongOK K:=by
 intro w cI cJ b6 n hu hv hm bL ct bK;obtain⟨X,bX,hd,ht,b3,hl⟩:=J9 hu hm;obtain⟨l,r,a6,aY,b4,cp⟩:=J9 hv (qu bL hm);have cs:1<l.length:=Top.ge a6 (by rw[b4];simpa using bK);obtain⟨t,hes⟩:∃t,l.length=t+2:=⟨l.length-2,om⟩;have ar:l.length<=X.length:=by
  rcases Qc X.length l.length with aA|aA
  ·have:=aY.lt_of_len hd aA;omega
  ·exact aA
 have bA:X≠ []:=by intro e;rw[e,hes]at ar;simp at ar
 have aJ:l≠ []:=by intro e;rw[e]at hes;simp at hes
 have c0:=aY (t+1) hes;have cy:=a6.get (t+1);obtain⟨B,hs,bT,bR,bS⟩:=znu (Z3 c0) cy;obtain⟨m,g⟩:=by_bd a6 hes bR bS;have br:0<2^B:=zbb dc;have ce:2^B<=2147483648:=ZD (n:=2) dc hs;rw[b4]at m g;have U:=r;have b2:=bX;obtain⟨_,_,rfl,cj,bO⟩:=r;obtain⟨_,_,rfl,ci,bQ⟩:=bO aJ;obtain⟨_,_,rfl,hc,hr⟩:=bX;have ck:=bQ (t+1) om;have aW:b6<4294967296^X.length:=by rw[<-b3];exact val_lt hd
 obtain⟨M,hM⟩:∃M,X.length=M:=⟨_,rfl⟩;rw[hes]at ar cs cp U cj⊢;rw[hM]at ar hl b2 hc aW⊢;generalize cz:l.getD (t+1) 0=cB at *;have aV:=fun c7=>Tryz.bits_LeadingZeros32 (cB:Int) c7 om om
 rw[jT,bT]at aV;have ae:=zf m;have az:=zf g;have c4:=zf aW;clear hr bO m g c0 bR bS bT hm bL ct bK ht aY aW;go_enter func224,ntmps224
 go_wp2_with fail
 refine(aV _).mono ?_;rintro e w0 ⟨rfl,rfl⟩;go_wp2_with fail
 refine(zif _ _ X B hs b2 bA hd om).mono ?_;rintro e w1 ⟨c,L0,rfl,aD,ca,bo,aC,bp,m,bF,a7⟩;rw[hM]at aD aC;rw[hM];go_wp2_with fail
 refine(zif _ _ l B hs (U.below m) aJ a6 om).mono ?_;rintro e w2 ⟨gB,k,rfl,bg,be,aB,bf,bh,g,cm,bD⟩;rw[hes]at bg bf;rw[hes];go_wp2_with fail
 refine(trim_any _ _ _ _ _ k om om om aB).mono ?_;rintro e w3 ⟨rfl,rfl⟩;have u:=be.take (Jr k (t+2+1));have aj:=zg8 k (t+2+1) om;have J:=val_trimL k (t+2+1) om;rw[zP (show k.length<=t+2+1 by omega),bh,b4]at J;have ai:=aB.take (Jr k (t+2+1));obtain⟨v,ah⟩:=zoo u aj J ae.out az.out;have aZ:Jr k (t+2+1)=t+2:=by
  have:=zgu k (t+2+1);rw[zX]at v;omega
 rw[aZ]at u aj J ai v ah;rw[aZ];obtain⟨F,hF⟩:∃F,k.take (t+2)=F:=⟨_,rfl⟩;rw[hF]at u aj J ai v ah;clear hF aZ be aB bf bh bg aj;have bJ:=znv aD om (b3▸bp) c4.out br ce ae.out;obtain⟨i0,N,c1,c2,c3⟩:=Zn Xr;obtain⟨f,hk0⟩:∃f,M-(t+2)+1=f:=⟨_,rfl⟩;have bl:=zf bJ;clear bJ;go_wp2_with (at_make;refine ziw _ rfl _ _ 83 rfl 229 i0 underlying83 N c1 c2 c3 _ _ _ _ f rfl rfl om om om ?_;intro C bq aF a5 bV)
 have aL:gB≠w3.heap.size:=om;have a1:c≠w3.heap.size:=by have:=g.size;omega
 have ak:gB≠c:=om;have cb:=(bo.below g a7).below a5 (zK a7 g.size);have bi:=ai.below a5 bD;have bn:zcj C c 0 (M+1):=fun A N=>(a5.frozen (p:=⟨c,0+A,O⟩) (zK a7 g.size)).trans ((g.frozen (p:=⟨c,0+A,O⟩) a7).trans (aC A N))
 have ch:=m.trans ((g.trans (a5.mono g.size)).mono m.size);have bG:=zF m.size g.size;have cn:gB<C.heap.size:=om;obtain⟨d,hgQ⟩:∃d,w3.heap.size=d:=⟨_,rfl⟩;rw[hgQ]at bq aF bV aL a1 bG;rw[hgQ];clear N c1 c2 c3 hv U ci bQ hu b2 ck bo ai aC m g a5 aV cz a6 hd hes bA aJ a7 cm bD;obtain⟨i,hV⟩:∃i,2^B*n=i:=⟨_,rfl⟩;have HV:=zf hV;rw[hV]at J ae az bl;clear hV;have bs:=az.out;have af:=zf J;clear J;have bb:=zf bs;clear bs;go_loopw [9] (fun iv wr=>∃(W:Nat) (L Q:List Nat),W<=f/\iv=it Xb ((W:Int)-1)/\Hid (L.length=M+1)/\Dig L/\Row wr c 0 L/\Hid (Q.length=f)/\Dig Q/\Row wr d 0 Q/\Two c d C wr/\
  Hid (val L0=val L+i*(4294967296^W*val (Q.drop W)))/\Hid (val (L.drop W)<i)) (fun iv _=>(intOf iv+1).toNat)
 case atStart=>exact⟨f,L0,List.replicate f 0,zh _,rfl,aD,ca,cb,by simp[Hid],(fun cC hd=>by rw[zaB hd];decide),bq,Two.refl _ _ _,by rw[Hid,QP sp];simp[val],by rw[Hid,show f=M-t-1 by omega];exact bl.out⟩
 case round=>
  obtain⟨W,L,Q,_,rfl,R,a8,au,y,aX,av,o,a2,a9⟩:=hrel;cases W with
  |zero=>
   have bY:val L0=2^B*b6:=by rw[bp,b3]
   obtain⟨x,bP⟩:=zqh (S:=2^B) (m:=b6) (n:=n) (r:=val L) (q:=val Q) br (by
    have:=a2.out;rw[bY,Q2,Nat.pow_zero,Jv,<-HV.out]at this;exact this) (by have:=a9.out;rw[Q2,<-HV.out]at this;exact this)
   have c5:=zf x;have c6:=zf bP;have bM:=o.free aF;have aU:=o.free bn;have bU:=zk1 wr c 0 (M+1) B L hs (by rw[R.out];omega) (by rw[R.out];omega) au (by rw[R.out];exact aU) a8;rw[R.out]at bU;have co:d<wr.heap.size:=by rw[o.size];exact bV
   clear x bP a2 a9 bY;go_wp2_with fail
   refine(trim_any _ d 0 f f Q (zh _) om (by rw[y.out];omega) av).mono ?_;rintro e w5 ⟨rfl,rfl⟩;go_wp2_with fail
   refine bU.mono ?_;rintro e s ⟨rfl,L',aR,cq,aS,aT,cr⟩;go_wp2_with fail
   refine(trim_any _ c 0 (M+1) (M+1) L' (zh _) om om aS).mono ?_;rintro e D ⟨rfl,rfl⟩;go_wp2_with fail
   go_ret2;have ab:=aT.other (fun e=>a1 e.symm) av;refine⟨_,_,rfl,?_,?_,?_⟩;·rw[<-c5.out];exact natV_trim ab aX (by rw[aT.size];exact co) y.out (zh _)
   ·rw[<-c6.out,<-cr];exact natV_trim aS cq (block_of_row aS (by intro e;rw[e]at aR;simp at aR)) aR (zh _)
   ·exact ch.trans ((o.below bF bG).trans (aT.below bF))
  |succ j=>
   have aQ:j+(t+2)+1<=L.length:=by rw[R.out];omega
   obtain⟨ax,bZ,b5⟩:=znp a8 aQ a9.out bb.out;obtain⟨I,hWd0⟩:∃I,(L.drop j).take (t+2+1)=I:=⟨_,rfl⟩;have a0:I.length=t+3:=by rw[<-hWd0,zX,Za];omega
   have bx:Row wr c j I:=by have:=(au.drop j).take (t+2+1);rw[hWd0,qt]at this;exact this
   have ap:Dig I:=by rw[<-hWd0];exact(a8.drop j).take _
   rw[hWd0]at ax;have bj:=o.row ak aL bi;have hX:=top_le a0 v u ax af.out b5;have aU:=o.free bn;have bw:zcj wr c j (t+3):=fun A N=>by have:=aU (j+A) om;rwa [qt]at this
   have bI:=zjR wr c j (M+1-j) gB 0 (t+2+1) t I F a0 v om om om bx bj ap u ah hX _ _ _ _ rfl rfl rfl rfl;have bE:gB<wr.heap.size:=by rw[o.size];exact cn
   have bM:=o.free aF;have cD:wr.cell? (Xd d j O)=E (it .u32 ((Q.getD j 0:Nat):Int)):=by have:=av j (by rw[y.out];omega);rwa [qt]at this
   have cu:wr.frozen? (Xd d j O)=false:=by have:=bM j om;rwa [qt]at this
   have aP:j<f:=om;have a4:=zf ax;have bu:=zf bZ;have cg:=zf b5;have bd:=zf hWd0;clear ax bZ b5 hX hWd0;go_wp2_with fail
   rw[show j+(t+2)+1-j=t+3 by omega];refine bI.mono ?_;rintro e w5 ⟨h,rfl,aK,bB,bC,nq,rfl⟩;obtain⟨aM,bH⟩:=znw a0 v ap u a4.out af.out ah cg.out rfl rfl rfl rfl bB aK bC;have bW:=zgV (wr.drewN nq) c j (M+1-j) h I F (V (E (Xd gB 0 O)) (t+2) (t+2+1)) om om om aK bx (by rw[a0];exact bw) ap
    ⟨_,t+2+1,by rw[v],om,fun _=>⟨gB,0,rfl,bE,ak,bj⟩⟩ u
   rw[a0]at bW;clear bB bC bI;go_wp2_with fail
   refine bW.mono ?_;rintro e s ⟨W1,cA,rfl,hr,Z,aH,bt,T,r⟩;rw[a4.out,af.out]at r;have aG:0<i:=by
    have:=ae.out;have:=pow_pos (t+1);generalize 4294967296^(t+1)=P at *;omega
   have Y:=val_lt aH;rw[Z]at Y;have ad:val (L.drop j)<4294967296^(t+3):=by
    have:=val_lt ap;rw[a4.out,a0]at this;exact this
   have al:i<4294967296^(t+3):=zK bb.out (pow_mono om);have b0:=(o.drewN nq).trans (T.two d);have cc:=Row.splice (w:=wr.drewN nq) au (by rw[qt,Z];exact T) (by rw[qt];exact bt) (by rw[Z];omega);have ab:=T.other (fun e=>a1 e.symm) av;have c9:=b0.row ak aL bi;have cE:s.cell? (Xd d j O)=E (it .u32 ((Q.getD j 0:Nat):Int)):=by have:=ab j (by rw[y.out];omega);rwa [qt]at this
   have cv:=(T.frozenAll d j).trans cu;have aq:j<Q.length:=by rw[y.out];exact aP
   by_cases aN:h<=val (L.drop j)/i
   ·obtain⟨rfl,x,aa⟩:=zop aG aM aN Y r ad;obtain⟨s1,s2⟩:=zkn aQ om aq (by rw[bd.out];exact a4.out) bu.out x a2.out;have a3:=ab.setCell j h aq;have z:=(Xs d 0 f s).setCell j aP (it .u32 (h:Int));simp only[qt]at a3 z;have aE:=z.other a1 cc;have b1:=b0.trans (z.two' c);have S1:=zf s1;have S2:Hid (val ((splice L W1 j).drop j)<i):=by rw[Hid,s2];exact aa
    clear s1 s2 x aa r ad al aM bH aN a2 a9 Y;go_wp2_with fail
    go_roundw
    case rel=>exact⟨j,splice L W1 j,Q.set j h,om,by go_num,by rw[Hid,zgx (by rw[Z];omega),R.out],zi0 a8 aH,aE,by rw[Hid,qX,y.out],aX.set _ _ aK,a3,b1,S1,S2⟩
    case measure=>simp[intOf]
   ·have aO:h=val (L.drop j)/i+1:=om;obtain⟨_,_,ay⟩:=zkq (b:=0) (c:=0) aG aO Y r ad al;have cH:(0:Int)<(cA:Int):=om;have bz:=zf1 s c j (M+1-j) W1 F (V (E (Xd gB 0 O)) (t+2) (t+2+1)) om om om bt (by rw[Z];exact fun A N=>(T.frozenAll c (j+A)).trans (bw A N)) aH
     ⟨_,t+2+1,by rw[v],om,fun _=>⟨gB,0,rfl,by rw[T.size];exact bE,ak,c9⟩⟩ u
    rw[Z]at bz;have b9:=zf r;have b7:=zf aO;have b8:=zf ad;have ba:=zf al;have bc:=zf Y;clear ay r aO ad al Y aM bH aN;go_wp2_with fail
    refine bz.mono ?_;rintro e D ⟨rfl,W2,c8,an,bv,cf,aw,U⟩;rw[af.out]at U;have aI:=val_lt bv;rw[an]at aI;obtain⟨_,_,ay⟩:=zkq (b:=val W2) (c:=c8) aG b7.out bc.out b9.out b8.out ba.out;obtain⟨x,aa⟩:=ay aI U;have b1:=b0.trans (aw.two d);have cx:=T.trans aw;have aE:=Row.splice (w:=wr.drewN nq) au (by rw[qt,an];exact cx) (by rw[qt];exact cf) (by rw[an];omega);have bN:=aw.other (fun e=>a1 e.symm) ab;have cF:D.cell? (Xd d j O)=E (it .u32 ((Q.getD j 0:Nat):Int)):=by have:=bN j (by rw[y.out];omega);rwa [qt]at this
    have cG:=(aw.frozenAll d j).trans cv;obtain⟨s1,s2⟩:=zkn (q:=h-1) aQ om aq (by rw[bd.out];exact a4.out) bu.out x a2.out;have a3:=bN.setCell j (h-1) aq;have z:=(Xs d 0 f D).setCell j aP (it .u32 ((h-1:Nat):Int));rw[show((h-1:Nat):Int)=(h:Int)-1 by omega]at a3 z;simp only[qt]at a3 z;have cd:=z.other a1 aE;have cw:=b1.trans (z.two' c);have S1:=zf s1;have S2:Hid (val ((splice L W2 j).drop j)<i):=by rw[Hid,s2];exact aa
    clear s1 s2 x aa U aI ay a2 a9 b9 b7 b8 ba bc;go_wp2_with fail
    go_roundw
    case rel=>exact⟨j,splice L W2 j,Q.set j (h-1),om,by go_num,by rw[Hid,zgx (by rw[an];omega),R.out],zi0 a8 bv,cd,by rw[Hid,qX,y.out],aX.set _ _ om,a3,cw,S1,S2⟩
    case measure=>simp[intOf]
def wT (z:Int):ByteArray:=⟨(Lib.itoa z).toArray⟩
theorem zdP(s:ByteArray):s.data.toList.length=s.size:=js
end

namespace T
open Go.RowKit
theorem pow4 (i:Nat):10000^i=10^(4*i):=by rw[zew]
theorem ba_of {s:ByteArray}{l:List UInt8}(h:s.data.toList=l):s=⟨l.toArray⟩:=by
 subst h;rfl
def okD (l:List UInt8)(m:Nat):Bool:=decide (l≠ [])&&(decide (l.length<=m)&&Qm l)
theorem okD_ten {A:List UInt8}{m:Nat}(h:okD A m=true):ZE A<10^m:=by
 unfold okD at h;simp only[Qj,Z9]at h;exact zK (zkp h.2.2) (ZD om h.2.1)
def wZ (l:List UInt8):Int:=sg (Lib.hasPrefix l [45]) (ZE (Lib.trimPrefix l [45]))
structure Tri where
 b:Bool
 u:Option Addr×Nat×Nat
 d:Option Addr×Nat×Nat
def Tri.up (t:Tri):Value:=V t.u.1 t.u.2.1 t.u.2.2
def Tri.down (t:Tri):Value:=V t.d.1 t.d.2.1 t.d.2.2
def Tri.val (t:Tri):Value:=ag #[G t.b,t.up,t.down]
def Tri.cells (t:Tri):List Value:= [G t.b,t.up,t.down]
end T

section
open Go.RowKit
variable {B a b c cap g k t:Nat}{l:List (Value×Nat×List Value)}{s:ByteArray}{v x:Value}{w w' w0:H}{xs:List Value}
theorem zi9{e size n:Nat}(h:w.ownsRow B e size v n xs)(hs:w.heap.size<=w'.heap.size)(q:∀g,v.ownBlock=E g->w'.heap[g]? =w.heap[g]?):w'.ownsRow B e size v n xs:=by
 obtain⟨b,i|⟨g,d,f,c,m,o,p,j,k,l⟩⟩:=h;·exact⟨b,Or.inl i⟩
 ·exact⟨b,Or.inr ⟨g,d,f,c,m,(q g (by rw[c];rfl)).trans o,p,j,k,l⟩⟩
theorem zj3{i j:Nat}{u:Value}(h:w.cell? (Xd g j O)=E u)(b:i≠j):(w.setCell (Xd g i O) v).cell? (Xd g j O)=E u:=by
 rw[zA _ _ _ _ (by intro e;injection e with _ b;omega)];exact h
structure Pen (B:Nat)(w:H)(l:List (Value×Nat×List Value)):Prop where
 own:∀(k:Nat) (v:Value) (t:Nat) (xs:List Value),l[k]? =E (v,t,xs)->w.ownsRow B t 1 v xs.length xs
 apart:∀(j k:Nat) (r q:Value×Nat×List Value),l[j]? =E r->l[k]? =E q->j≠k->∀g,r.1.ownBlock=E g->q.1.ownBlock≠E g
theorem Pen.same(h:Pen B w l)(hs:w.heap.size<=w'.heap.size)(hb:∀g,B<=g->g<w.heap.size->w'.heap[g]? =w.heap[g]?):Pen B w' l:=
 ⟨fun k v t c b=>zi9 (h.own k v t c b) hs (fun g d=>by have:=(h.own k v t c b).lt g d;exact hb g this.1 this.2),h.apart⟩
theorem Pen.grow(h:Pen B w l)(r:l[k]? =E (v,t,xs))(hg:w.grownBy w' v.ownBlock)(ho:w'.ownsRow B t 1 (V (E (Xd g 0 O)) (xs.length+1) cap) (xs.length+1) (xs ++ [x]))(d:v.ownBlock=E g\/g=w.heap.size):Pen B w' (l.set k (V (E (Xd g 0 O)) (xs.length+1) cap,t,xs ++ [x])):=by
 have b:=(zo.1 r).1;have s:(l.set k (V (E (Xd g 0 O)) (xs.length+1) cap,t,xs ++ [x]))[k]? =E (V (E (Xd g 0 O)) (xs.length+1) cap,t,xs ++ [x]):=by rw[jZ b]
 have m:∀j,j≠k->(l.set k (V (E (Xd g 0 O)) (xs.length+1) cap,t,xs ++ [x]))[j]? =l[j]?:=fun j b=>zal (Qr b)
 have y:∀j q,j≠k->l[j]? =E q->q.1.ownBlock≠E g:=by
  intro j q b c e;rcases d with i|i
  ·exact h.apart j k q _ c r b g e i
  ·have:=((h.own j q.1 q.2.1 q.2.2 c).lt g e).2;omega
 refine⟨fun j C A D b=>?_,fun o j z q d b p f c=>?_⟩
 ·by_cases e:j=k
  ·subst e;rw[s]at b;simp only[qN,Prod.mk.injEq]at b;obtain⟨rfl,rfl,rfl⟩:=b;rw[zM,ZH];exact ho
  ·rw[m j e]at b;have u:=h.own j C A D b;refine zi9 u hg.size (fun f c=>?_);have A:=u.lt f c;exact hg.block f A.2 (fun i=>h.apart j k _ _ b r e f c i.symm)
 ·by_cases i:o=k
  ·subst i;rw[s]at d;simp only[qN]at d;subst d;rw[m j (Qr p)]at b;simp[Value.ownBlock]at c;subst c;exact y j q (Qr p) b
  ·rw[m o i]at d;by_cases r:j=k
   ·subst r;rw[s]at b;simp only[qN]at b;subst b;intro e;simp[Value.ownBlock]at e;subst e;exact y o z i d c
   ·rw[m j r]at b;exact h.apart o j z q d b p f c
theorem Pen.snoc(h:Pen B w l)(t:Nat):Pen B w (l ++ [(V O 0 0,t,[])]):=by
 have last:∀k q,l.length<=k->(l ++ [((V O 0 0:Value),t,([]:List Value))])[k]? =E q->q=(V O 0 0,t,[]):=by
  intro k q b c;rw[zG b]at c;have:k-l.length=0:=by
   have:=(zo.1 c).1;simp at this;omega
  rw[this]at c;simpa using c.symm
 refine⟨fun k v s o b=>?_,fun i j r q d e m f c=>?_⟩
 ·by_cases g:k<l.length
  ·rw[zS g]at b;exact h.own k v s o b
  ·have:=last k _ om b;simp only[Prod.mk.injEq]at this;obtain⟨rfl,rfl,rfl⟩:=this;exact zaf _ _ _ _
 ·by_cases b:i<l.length
  ·rw[zS b]at d;by_cases b:j<l.length
   ·rw[zS b]at e;exact h.apart i j r q d e m f c
   ·rw[last j _ om e];simp[Value.ownBlock]
  ·rw[last i _ om d]at c;simp[Value.ownBlock]at c
structure Sm (B gf gp:Nat)(w0 w:H)(s:ByteArray)(a:Nat)(l tl:List (Value×Nat×List Value)):Prop where
 lt:w0.heap.size<=gf/\gf<B/\w0.heap.size<=gp/\gp<B/\gf≠gp
 le:B<=w.heap.size
 fd:Zh w gf (gS s) (it Xb (a:Nat))
 sz:a<=s.size
 box:∀(k:Nat) (r:Value×Nat×List Value),l[k]? =E r->w.cell? (Xd gp k O)=E r.1/\w.frozen? (Xd gp k O)=false
 pen:Pen B w (l++tl)
 low:Below w0.heap.size w0 w
theorem Sm.ext{d:List (Value×Nat×List Value)}(h:Sm B c b w0 w s a l d)(hb:Ext w w'):Sm B c b w0 w' s a l d:=by
 have e:b<w.heap.size:=by have:=h.lt;have:=h.le;omega
 refine⟨h.lt,zF h.le hb.size,Zh.below h.fd hb,h.sz,fun k r c=>?_,h.pen.same hb.size (fun g _ d=>hb.block g d),h.low.trans (hb.mono h.low.size)⟩;exact⟨hb.cell (h.box k r c).1,(qw (w:=w) (a:=⟨b,k,O⟩) (hb.block b e)).trans (h.box k r c).2⟩
theorem Sm.next{a':Nat}{e:List (Value×Nat×List Value)}(h:Sm B c b w0 w s a l e)(g:Zh w' c (gS s) (it Xb (a':Nat)))(f:a'<=s.size)(d:Wr (fun k=>k=c) w w'):Sm B c b w0 w' s a' l e:=by
 have e:=h.lt;have i:b<w.heap.size:=by have:=h.le;omega
 have j:¬b=c:=fun c=>e.2.2.2.2 c.symm
 refine⟨h.lt,zF h.le d.size,g,f,fun k r c=>?_,h.pen.same d.size (fun g f f=>d.block g f om),h.low.trans (d.below h.low.size (fun k c=>by rw[c];exact e.1))⟩;have e:=d.block b i j;exact⟨(Zj (w:=w) (a:=⟨b,k,O⟩) e).trans (h.box k r c).1,(qw (w:=w) (a:=⟨b,k,O⟩) e).trans (h.box k r c).2⟩
theorem Sm.grown{d:Nat}{g e f:List (Value×Nat×List Value)}{row:Option Nat}(h:Sm B c d w0 w s a l g)(hg:w.grownBy w' row)(j:∀b,row=E b->B<=b)(m:Pen B w' (e++f))(i:∀k r,e[k]? =E r->w.cell? (Xd d k O)=E r.1/\w.frozen? (Xd d k O)=false):Sm B c d w0 w' s a e f:=by
 have e:=h.lt;have e:=h.le;have g:∀b,b<B->w'.heap[b]? =w.heap[b]?:=fun b e=>hg.block b om (fun e=>by have:=j b e.symm;omega)
 refine⟨h.lt,zF h.le hg.size,?_,h.sz,fun k r f=>?_,m,?_⟩
 ·obtain⟨m,o,p,q,t⟩:=h.fd;have e:=g c om;exact⟨(Zj (w:=w) (a:=⟨c,0,O⟩) e).trans m,(Zj (w:=w) (a:=⟨c,1,O⟩) e).trans o,(qw (w:=w) (a:=⟨c,0,O⟩) e).trans p,(qw (w:=w) (a:=⟨c,1,O⟩) e).trans q,zK t hg.size⟩
 ·have e:=g d om;exact⟨(Zj (w:=w) (a:=⟨d,k,O⟩) e).trans (i k r f).1,(qw (w:=w) (a:=⟨d,k,O⟩) e).trans (i k r f).2⟩
 ·refine h.low.trans ⟨hg.os,hg.tape,hg.output,hg.size,fun k f=>hg.block k (by have:=h.low.size;omega) (fun e=>by have:=j k e.symm;omega)⟩
theorem Sm.field{f:Nat}{b:List (Value×Nat×List Value)}(h:Sm B f c w0 w s a l b)(p:l[k]? =E (v,t,xs))(hg:w.grownBy w' v.ownBlock)(ho:w'.ownsRow B t 1 (V (E (Xd g 0 O)) (xs.length+1) cap) (xs.length+1) (xs ++ [x]))(e:v.ownBlock=E g\/g=w.heap.size):Sm B f c w0 (w'.setCell (Xd c k O) (V (E (Xd g 0 O)) (xs.length+1) cap)) s a (l.set k (V (E (Xd g 0 O)) (xs.length+1) cap,t,xs ++ [x])) b:=by
 have q:=(zo.1 p).1;have d:(l++b)[k]? =E (v,t,xs):=by rw[zS q];exact p
 have j:=fun b i=>((h.pen.own k v t xs d).lt b i).1
 have y:=h.pen.grow d hg ho e;rw[List.set_append_left _ _ q]at y;have d:=h.lt;have d:=h.le;have u:∀b,b≠c->(w'.setCell (Xd c k O) (V (E (Xd g 0 O)) (xs.length+1) cap)).heap[b]? =w'.heap[b]?:=fun b i=>qC _ _ _ _ so
 have d:(w'.setCell (Xd c k O) (V (E (Xd g 0 O)) (xs.length+1) cap)).heap.size=w'.heap.size:=sp;have m:∀b,b<B->w'.heap[b]? =w.heap[b]?:=fun b i=>hg.block b om (fun e=>by have:=j b e.symm;omega)
 have d:=hg.size;have o:∀j r,l[j]? =E r->w'.cell? (Xd c j O)=E r.1/\w'.frozen? (Xd c j O)=false:=fun j r d=>⟨(Zj (w:=w) (a:=⟨c,j,O⟩) (m c om)).trans (h.box j r d).1,(qw (w:=w) (a:=⟨c,j,O⟩) (m c om)).trans (h.box j r d).2⟩
 refine⟨h.lt,om,?_,h.sz,fun j r d=>?_,y.same om (fun b i _=>u b om),?_⟩
 ·obtain⟨c,y,z,A,_⟩:=h.fd;have e:=(u f om).trans (m f om);exact⟨(Zj (w:=w) (a:=⟨f,0,O⟩) e).trans c,(Zj (w:=w) (a:=⟨f,1,O⟩) e).trans y,(qw (w:=w) (a:=⟨f,0,O⟩) e).trans z,(qw (w:=w) (a:=⟨f,1,O⟩) e).trans A,om⟩
 ·by_cases e:j=k
  ·subst e;rw[jZ q]at d;simp only[qN]at d;subst d;exact⟨zN _ _ _ (o j _ p).1,by simpa using (o j _ p).2⟩
  ·rw[zal (Qr e)]at d;exact⟨zj3 (o j r d).1 (Qr e),by simpa using (o j r d).2⟩
 ·refine h.low.trans ⟨hg.os,hg.tape,hg.output,om,fun b i=>?_⟩;exact(u b om).trans (m b om)
theorem Sm.last{d:Nat}{b:List (Value×Nat×List Value)}(h:Sm B c d w0 w s a l (b ++ [(v,t,xs)]))(hg:w.grownBy w' v.ownBlock)(ho:w'.ownsRow B t 1 (V (E (Xd g 0 O)) (xs.length+1) cap) (xs.length+1) (xs ++ [x]))(e:v.ownBlock=E g\/g=w.heap.size):Sm B c d w0 w' s a l (b ++ [(V (E (Xd g 0 O)) (xs.length+1) cap,t,xs ++ [x])]):=by
 have c:(l++(b ++ [(v,t,xs)]))[(l++b).length]? =E (v,t,xs):=by
  rw[<-Zl,zG (zh _),Qn];rfl
 have f:=fun b d=>((h.pen.own _ v t xs c).lt b d).1
 have b:=h.pen.grow c hg ho e;rw[<-Zl,List.set_append_right _ _ (zh _),Qn,Zl]at b;exact h.grown hg f b h.box
theorem Sm.start{d:List (Value×Nat×List Value)}(h:Sm B b c w0 w s a l d)(t:Nat):Sm B b c w0 w s a l (d ++ [(V O 0 0,t,[])]):=
 ⟨h.lt,h.le,h.fd,h.sz,h.box,by rw[<-Zl];exact h.pen.snoc t,h.low⟩
theorem Sm.far{e:Nat}{c:List (Value×Nat×List Value)}{j:Nat}{r:Value×Nat×List Value}(h:Sm B e b w0 w s a l c)(f:(l++c)[k]? =E (v,t,xs))(hg:w.grownBy w' v.ownBlock)(d:l[j]? =E r):w'.cell? (Xd b j O)=E r.1/\w'.frozen? (Xd b j O)=false:=by
 have c:=h.lt;have c:=h.le;have c:=hg.block b om (fun e=>by have:=((h.pen.own k v t xs f).lt b e.symm).1;omega);exact⟨(Zj (w:=w) (a:=⟨b,j,O⟩) c).trans (h.box j r d).1,(qw (w:=w) (a:=⟨b,j,O⟩) c).trans (h.box j r d).2⟩
def ivs (zs:List Int):List Value:=zs.map fun z=>it Xb z
section

variable {F:Fence} {n:Nat} {P:Program} {ops:Array Oper} {Q:Exit->Act->World->Prop} {md:Region.Mode} {fuel:Nat} {listed:Array Bool} {a:Act} {w:World}
theorem rj1 (i:Nat){o:Oper}(hr:Region.ready md ops listed= [i]:=by kernel_rfl)(ho:ops[i]? =some o:=by rfl)
 (h:∀K':Act->World->Prop,(∀a w,wpAnyIn F n P md ops Q fuel (listed.setIfInBounds i true) a w->K' a w)->if Region.wanted o (yielded ops a.tmps)=true then Oper.wpIn F n P o a w K' Q else(∀f,o.about P w a.eval=some f->F.fn f)/\K' (a.put o.dst undef) w):
 wpAnyIn F n P md ops Q (fuel+1) listed a w:=
 wpAnyIn_ready hr (by simp) (AllReadyIn.cons ho h AllReadyIn.nil)
theorem rj2 (i j:Nat){o o1:Oper}(hr:Region.ready md ops listed= [i,j]:=by kernel_rfl)(ho:ops[i]? =some o:=by rfl)(ho1:ops[j]? =some o1:=by rfl)
 (h:∀K':Act->World->Prop,(∀a w,wpAnyIn F n P md ops Q fuel (listed.setIfInBounds i true) a w->K' a w)->if Region.wanted o (yielded ops a.tmps)=true then Oper.wpIn F n P o a w K' Q else(∀f,o.about P w a.eval=some f->F.fn f)/\K' (a.put o.dst undef) w)
 (h1:∀K':Act->World->Prop,(∀a w,wpAnyIn F n P md ops Q fuel (listed.setIfInBounds j true) a w->K' a w)->if Region.wanted o1 (yielded ops a.tmps)=true then Oper.wpIn F n P o1 a w K' Q else(∀f,o1.about P w a.eval=some f->F.fn f)/\K' (a.put o1.dst undef) w):
 wpAnyIn F n P md ops Q (fuel+1) listed a w:=
 wpAnyIn_ready hr (by simp) (AllReadyIn.cons ho h (AllReadyIn.cons ho1 h1 AllReadyIn.nil))
variable {S:World->Prop}
theorem rd2 (i j:Nat){o o1:Oper}(hr:Region.ready md ops listed= [i,j]:=by kernel_rfl)(ho:ops.toList[i]? =some o:=by rfl)(ho1:ops.toList[j]? =some o1:=by rfl)
 (h:∀K':Act->World->Prop,Back P ops Q md S fuel (listed.setIfInBounds i true) K'->if Region.wanted o (yielded ops a.tmps)=true then Oper.wp P o a w K' Q else K' (a.put o.dst undef) w)
 (h1:∀K':Act->World->Prop,Back P ops Q md S fuel (listed.setIfInBounds j true) K'->if Region.wanted o1 (yielded ops a.tmps)=true then Oper.wp P o1 a w K' Q else K' (a.put o1.dst undef) w):wpAnyH P md ops Q S (fuel+1) listed a w:=
 wpAnyH_ready hr (by simp) (rdc (ho:=ho) (h:=h) (hs:=rdc (ho:=ho1) (h:=h1) (hs:=AllReadyH.nil)))
end

end

section
open Go.RowKit
theorem zqu (K:Nat):4294967296^K<=10^(10*K):=by
 rw[zew];exact Nat.pow_le_pow_left dc K
theorem zbg {n K:Nat}(h:n<4294967296^K):(Lib.decDigits n).length<=10*K+1:=by
 refine zbS (10*K+1) n (zK (zK h (zqu K)) ?_) om;exact ZD om om
theorem zku {z:Int}{K:Nat}(b:z.natAbs<4294967296^K):(Lib.itoa z).length<=10*K+2:=by
 unfold Lib.itoa;split
 ·have:=zbg b;simp;omega
 ·have e:z.toNat=z.natAbs:=om;rw[e];have:=zbg b;omega
theorem zj4 (K:Nat)(hK:K<=1000000)(w:H)(v:Value)(n:Nat)(T:NatV w v n)(t:n≠0)(hn:n<4294967296^K)(ak:Tab w):
 Calls pg 73 #[v] w fun e w'=>e=Xa (gS ⟨(Lib.decDigits n).toArray⟩)/\Below w.heap.size w w':=by
 go_enter func73,ntmps73
 go_wp2_with fail
 refine(jW _ _ _ T t).mono ?_;rintro e w0 ⟨rfl,rfl⟩;go_wp2_with fail
 refine(zny _ _ n K T t hn om).mono ?_;rintro e b ⟨_,c,rfl,hx,af,R,ae,_,r⟩;obtain⟨_,_,rfl,_,hr⟩:=hx;have u:c≠ []:=by rintro rfl;exact t R.symm
 obtain⟨D,off,rfl,hg,ah⟩:=hr u;have ar:=ZC.2 u;have W:Hid (JD c=Lib.decDigits n):=by rw[Hid,JD,zO u,R]
 have o:=zf af;have A:=zf ae;have al:=ak.below r;have a7:Lib.IsBuilderF 124 5 b.heap.size b.heap.size (Lib.byteCells []) (b.alloc (cl #[pn O,V O 0 0] 124)):=by
  refine Or.inl ⟨zh _,V O 0 0,zC _ _,?_,by simp[Value.ownBlock]⟩;exact World.ownsRowF_of (zaf _ _ _ _)
 have a4:Below b.heap.size b (b.alloc (cl #[pn O,V O 0 0] 124)):=(qf _ _).alloc (zh _) _;go_wp2;go_loopw [5] (fun x wr=>∃k:Nat,k<=c.length/\x=it Xb ((k:Int)-1)/\Lib.IsBuilderF 124 5 b.heap.size b.heap.size (Lib.byteCells (JD (c.drop k))) wr/\Below b.heap.size b wr) (fun x _=>(intOf x+1).toNat)
 case atStart=>exact⟨c.length,zh _,rfl,by rw[QP (zh _)];exact a7,a4⟩
 case round=>
  obtain⟨k,_,rfl,q,d⟩:=hrel;cases k with
  |zero=>
   rw[Q2,W.out]at q;have a8:=d.size;go_wp2_with fail
   refine(Tryz.Builder_String_any_k b.heap.size b.heap.size _ _ q a8).mono ?_;rintro e y ⟨rfl,_,i,_⟩;go_wp2;go_ret;exact⟨rfl,r.trans ((d.trans i).mono r.size)⟩
  |succ k=>
   have ap:=(d.cell (p:=⟨D,off+k,O⟩) hg).trans (ah k om);have an:=al.below d;have ad:=zlI o.out k om;have C:=zf (zow o.out A.out (k+1) (c.length-(k+1)) om);have B:Hid (if k+1=c.length then JD (c.drop k)=Lib.decDigits (c.getD k 0)/\JD (c.drop (k+1))= []else JD (c.drop k)=JD (c.drop (k+1))++(List.replicate (9-(Lib.decDigits (c.getD k 0)).length) 48++Lib.decDigits (c.getD k 0))):=by
    rw[Hid];split
    ·exact zi7 k om
    ·exact zi6 o.out A.out k om
   generalize c.getD k 0=g at *;have aq:=zbS 9 g ad om;go_wp2_with fail
   refine(zjZ g om _ an).mono ?_;rintro e y ⟨rfl,i⟩;have s:=zfs q i;have j:=d.trans (i.mono d.size);have ai:=zdo (Lib.decDigits g);have a9:=j.size;by_cases N:k+1=c.length
   ·have f:=B.out;rw[zQ N]at f;rw[f.2]at s;have m:=zf f.1;have X:=zf ai;go_wp2_with fail
    refine(zeU b.heap.size b.heap.size (Lib.byteCells []) _ _ s (by rw[X.out];simp[Lib.byteCells];omega) a9).mono ?_;rintro e z ⟨rfl,h,l,_⟩;have a0:Lib.IsBuilderF 124 5 b.heap.size b.heap.size (Lib.byteCells (JD (c.drop k))) z:=by
     right
     rw[zdd,Q7,<-m.out]at h;exact h
    go_wp2;go_roundw
    case rel=>exact⟨k,om,by go_num,a0,j.trans l⟩
    case measure=>simp[intOf];omega
   ·have f:=B.out;rw[zO N]at f;have m:=zf f;generalize hB:ByteArray.mk (Lib.decDigits g).toArray=sB at *;generalize hL:(Lib.decDigits g).length=L at *;have U:=zf hB;go_wp2_with fail
    have Z:(9:Int)-(L:Int)=((9-L:Nat):Int):=om;rw[Z];refine(Tryz.strings_Repeat ⟨#[48]⟩ (9-L) y om (by rw[show(ByteArray.mk #[48]).size=1 from rfl];omega)).mono ?_;rintro e z ⟨rfl,h⟩;have a3:=zfs s h;have l:=j.trans (h.mono j.size);have aa:=l.size;have aj:(ByteArray.mk (Lib.repeatL (ByteArray.mk #[48]).data.toList (9-L)).toArray).size=9-L:=by
     rw[zdo,show(ByteArray.mk #[48]).data.toList= [48]from rfl,zgY,zbz]
    have Y:=zf aj;go_wp2_with fail
    refine(zeU b.heap.size b.heap.size (Lib.byteCells (JD (c.drop (k+1)))) _ _ a3 (by rw[Y.out];have:=C.out;simp[Lib.byteCells];omega) aa).mono ?_;rintro e w4 ⟨rfl,I,a5,_⟩;rw[zdd,zgY]at I;have a1:Lib.IsBuilderF 124 5 b.heap.size b.heap.size (Lib.byteCells (JD (c.drop (k+1))++List.replicate (9-L) 48)) w4:=Or.inr I;have M:=l.trans a5;have ab:=M.size;go_wp2_with fail
    refine(zeU b.heap.size b.heap.size _ sB _ a1 (by have:=C.out;simp[Lib.byteCells];omega) ab).mono ?_;rintro e w5 ⟨rfl,J,a6,_⟩;have a2:Lib.IsBuilderF 124 5 b.heap.size b.heap.size (Lib.byteCells (JD (c.drop k))) w5:=by
     right
     rw[<-U.out,zdd,Zl,<-m.out]at J;exact J
    go_wp2;go_roundw
    case rel=>exact⟨k,om,by go_num,a2,M.trans a6⟩
    case measure=>simp[intOf]
theorem zcK (K:Nat)(d:K<=1000000)(w:H)(v:Value)(n:Nat)(c:NatV w v n)(f:n<4294967296^K)(g:Tab w):
 Calls pg 73 #[v] w fun e w'=>e=Xa (gS ⟨(Lib.decDigits n).toArray⟩)/\Below w.heap.size w w':=by
 by_cases b:n=0
 ·subst b;exact zj0 w v c
 ·exact zj4 K d w v n c b f g
theorem zbT (K:Nat)(h:K<=1000000)(w:H)(x:Value)(z:Int)(b:zy w x z)(g:z.natAbs<4294967296^K)(j:Tab w):
 Calls pg 57 #[x] w fun e w'=>e=Xa (gS ⟨(Lib.itoa z).toArray⟩)/\Below w.heap.size w w':=by
 obtain⟨c,d,l,f,rfl,k,i⟩:=b.parts;have b:Below w.heap.size w (w.alloc (cl #[G c,V d l f] 85)):=(qf _ _).alloc (zh _) _;cases c with
 |true=>
  have c:z<0:=by have:=i.out;simp at this;omega
  have d:=zbg g;have d:Hid (ByteArray.mk #[45]++ByteArray.mk (Lib.decDigits z.natAbs).toArray=ByteArray.mk (Lib.itoa z).toArray):=by
   rw[Hid,Lib.itoa,zQ c];exact JW [45] _
  clear c;go_enter func57,ntmps57
  go_wp2_with fail
  refine(zcK K h _ _ _ (k.alloc _) g (j.below b)).mono ?_;rintro e l ⟨rfl,f⟩;generalize Lib.decDigits z.natAbs=m at *;go_wp2;go_ret;exact⟨by rw[<-d.out];rfl,b.trans (f.mono b.size)⟩
 |false=>
  have c:¬z<0:=by have:=i.out;simp at this;omega
  have d:Hid (Lib.itoa z=Lib.decDigits z.natAbs):=by
   rw[Hid,Lib.itoa,zO c];congr 1
   omega
  go_enter func57,ntmps57
  go_wp2_with fail
  refine(zcK K h _ _ _ (k.alloc _) g (j.below b)).mono ?_;rintro e l ⟨rfl,f⟩;go_wp2;go_ret;exact⟨by rw[d.out];rfl,b.trans (f.mono b.size)⟩
theorem zja (K:Nat)(u:K<=1000000)(w:H)(x:Value)(p:Int)(q:Nat)(b:Qa w x p q)(v:p.natAbs<4294967296^K)(A:q<4294967296^K)(B:Tab w):
 Calls pg 43 #[x] w fun e w'=>e=Xa (gS ⟨(jL p q).toArray⟩)/\Below w.heap.size w w':=by
 have z:=b;obtain⟨c,d,l,f,g,j,h,rfl,k,i,C,J,_⟩:=b.parts;have r:QQ (w.alloc (cl #[G c,V d l f,V g j h] 87)) w.heap.size (G c) (V d l f) (V g j h):=QQ.new _ _ _ _ _;have o:Below w.heap.size w (w.alloc (cl #[G c,V d l f,V g j h] 87)):=(qf _ _).alloc (zh _) _;have D:zy w (ag #[G c,V d l f]) p:=⟨c,_,rfl,k,i⟩;by_cases m:q=1
 ·subst m;have t:Hid (jL p 1=Lib.itoa p):=by rw[Hid,jL,zQ rfl]
  go_enter func43,ntmps43
  go_wp2_with fail
  refine(zf2 _ _ p (z.alloc _)).mono ?_;rintro e s ⟨rfl,b⟩;have y:=(D.alloc (cl #[G c,V d l f,V g j h] 87)).below b;have k:=r.below b;obtain⟨L,M,N,R,T,U,W⟩:=k;have i:=o.trans (b.mono o.size);clear b r;go_wp2_with fail
  refine(zbT K u _ _ p y v (B.below i)).mono ?_;rintro e I ⟨rfl,I⟩;go_wp2;go_ret;exact⟨by rw[t.out];rfl,i.trans (I.mono i.size)⟩
 ·rw[(zgc J m).1]at C;have I:=zku v;have I:=zbg A;have t:Hid (ByteArray.mk (Lib.itoa p).toArray++ByteArray.mk #[47]++ByteArray.mk (Lib.decDigits q).toArray=ByteArray.mk (jL p q).toArray):=by
   rw[Hid,jL,zO m];have I:ByteArray.mk (Lib.itoa p).toArray++ByteArray.mk #[47]=ByteArray.mk (Lib.itoa p ++ [47]).toArray:=JW _ [47];rw[I,JW,Zl]
  go_enter func43,ntmps43
  go_wp2_with fail
  refine(zgv _ _ p q (z.alloc _) m).mono ?_;rintro e s ⟨rfl,b⟩;have y:=(D.alloc (cl #[G c,V d l f,V g j h] 87)).below b;have z:=(C.alloc (cl #[G c,V d l f,V g j h] 87)).below b;have k:=r.below b;have m:=k;obtain⟨L,M,N,R,T,U,W⟩:=m;have i:=o.trans (b.mono o.size);have o:=B.below i;have m:Tab s.drew:=o;clear b r;go_wp2;go_region_held (fun w'=>w'.cell? (Xd w.heap.size 0 O)=E (G c)/\w'.cell? (Xd w.heap.size 1 O)=E (V d l f)/\w'.cell? (Xd w.heap.size 2 O)=E (V g j h)) (go_keep) (first|(go_at_call 73;refine(zcK K u _ _ q ((z.drew).below b) A (m.below b)).mono ?_;rintro e c ⟨rfl,d⟩;have c:=(k.drew.below b).below d;obtain⟨_,_,_,_,_,_,_⟩:=c)|(go_at_call 57;refine(zbT K u _ _ p (by exact y.drewN 1) v (by exact m)).mono ?_;rintro e f ⟨rfl,b⟩;have c:=k.drew.below b;obtain⟨_,_,_,_,_,_,_⟩:=c))
  all_goals go_wp2
  all_goals go_ret
  all_goals
   have c:=i.trans ((ze1 b).mono i.size);exact⟨by rw[<-t.out];rfl,c.trans (d.mono c.size)⟩
