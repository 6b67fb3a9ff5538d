import Derived.Test.YtmimmcmbgnjjcaaGreatDoorFon1Z13
open Option renaming none->O,some->E
open Go.Value renaming slice->V,bool->G,pointer->pn,int->it,agg->ag
open Go.Obj renaming cells->cl
open Go renaming World->H
open Go.Proofs.Tryz renaming prog->pg
open Go.Proofs.Tryz
open Go.Ending renaming returned->Xa
open Go.IntKind renaming i64->Xb
open Go.Addr renaming mk->Xd
set_option linter.unusedSimpArgs false
set_option linter.unusedVariables false
set_option maxHeartbeats 4000000
set_option maxRecDepth 100000
namespace Go.Proofs.YtmimmcmbgnjjcaaGreatDoor
open Go.RowKit
attribute [local go_sem] zD zW qJ
theorem ziI (w:H)(a b c d e:Obj):(((((w.alloc a).alloc b).alloc c).alloc d).alloc e).heap[w.heap.size]? =E a/\(((((w.alloc a).alloc b).alloc c).alloc d).alloc e).heap[w.heap.size+1]? =E b/\(((((w.alloc a).alloc b).alloc c).alloc d).alloc e).heap[w.heap.size+1+1]? =E c/\(((((w.alloc a).alloc b).alloc c).alloc d).alloc e).heap[w.heap.size+1+1+1]? =E d/\(((((w.alloc a).alloc b).alloc c).alloc d).alloc e).heap[w.heap.size+1+1+1+1]? =E e/\Ext w (((((w.alloc a).alloc b).alloc c).alloc d).alloc e):=by
 obtain⟨f,g,h,l⟩:=zax w a b c;obtain⟨i,j⟩:=Xj (((w.alloc a).alloc b).alloc c) d e;have k:(((w.alloc a).alloc b).alloc c).heap.size=w.heap.size+1+1+1:=sp;rw[k]at i j;have y:Ext (((w.alloc a).alloc b).alloc c) (((((w.alloc a).alloc b).alloc c).alloc d).alloc e):=((Xe _).alloc _).alloc _;exact⟨(y.block _ (zd.1 f).1).trans f,(y.block _ (zd.1 g).1).trans g,(y.block _ (zd.1 h).1).trans h,i,j,l.trans y⟩
def crossQ (over:Nat)(xs:List Int)(zt:Int)(ys:List Int)(zu:Int)(i:Nat):Int:=(xs.getD i 0*zt+ys.getD i 0*zu)/(over:Int)
theorem ziJ (w:H)(n a:Nat)(hb:a<=w.heap.size)(b:n<=1000):Grw a 85 2 (w.alloc (cl (madeCells #[G false,V O 0 0] (n*2)) 85)) (V (E (Xd w.heap.size 0 O)) 0 n) []:=by
 refine⟨World.ownsRow_made w _ _ hb mo (size_madeCells _ _),fun g a=>?_,fun b h=>by simp at h⟩;have e:w.heap.size=g:=by simpa[Value.ownBlock]using a
 subst e;exact zE (zC w _) (zqJ (by intro u a;simp at a;rcases a with rfl|rfl<;>(intro n e;cases e)))
theorem zf9 (K:Nat)(D:K+K<=1073741800)(w:H)(c:CT)(over:Nat)(ho:NatV w (sl3 c.o) over)(b7:over≠0)(xv yv:Value)(xs ys:List Int)(hx:Zo w xv xs)(hy:Zo w yv ys)(hl:xs.length=ys.length)(hn:xs.length<=4)(t u:WT)(j l:Int)(ht:zy w t.val j)(o:zy w u.val l){A:Nat}(bi:Zu A xs)(bj:Zu A ys)(aD:Lim A j)(aE:Lim A l)(hA:A<4294967296^K)(aX:A*A+A*A<4294967296^K)(b8:over<4294967296^K):
 Calls pg 157 #[c.val,xv,t.val,yv,u.val] w fun e w'=>∃f:Option Addr×Nat×Nat,e=Xa (sl3 f)/\Zo w' (sl3 f) (ZJ over xs j ys l)/\Below w.heap.size w w':=by
 obtain⟨i0,az,aG,aH,aI⟩:=Zn zbW;obtain⟨⟨aa,al,ac⟩,⟨oa,ol,oc⟩,⟨pa,pl,pc⟩,⟨a9,el,ec⟩⟩:=c;obtain⟨tb,⟨ta,tl,tc⟩⟩:=t;obtain⟨ub,⟨ua,ul,uc⟩⟩:=u;obtain⟨a,d,B,N⟩:=hx;obtain⟨ss,k1,y,k3⟩:=hy;obtain⟨fa,fc,rfl⟩:=B.shape;obtain⟨ga,gc,rfl⟩:=y.shape;have ai:ss.length=a.length:=om;rw[zm]at B y;rw[zm,zm];rw[ai]at y⊢;simp only[CT.val,sl3,WT.sv,WT.val]at *;obtain⟨n0,aj,n2,bn,a2,hX⟩:=ziI w (cl #[V aa al ac,V oa ol oc,V pa pl pc,V a9 el ec] 110) (cl #[G tb,V ta tl tc] 85) (cl #[G ub,V ua ul uc] 85) (cl (madeCells #[G false,V O 0 0] (a.length*2)) 85) (cl #[V (E ⟨w.heap.size+1+1+1,0,O⟩) 0 a.length] 96);have b6:∀W:H,(Instr.makeSlice 96 (it Xb 0) (it Xb (a.length:Nat))).run pg W= .ok (V (E (Xd W.heap.size 0 O)) 0 a.length) (W.alloc (cl (madeCells #[G false,V O 0 0] (a.length*2)) 85)):=by
  intro W;have:=run_make (P:=pg) W 96 85 i0 _ underlying96 az aG Xb Xb 0 (a.length:Int) om om (by rw[aI];omega) om;rw[aH,jT]at this;exact this
 have br:a.length<=4:=om;have aS:=zf ai;have H1:=zf d;have H2:=zf B;have H3:=zf N;have ao:=zf y;have aO:=zf k3;have HL:=zf hl;have a6:=zf ((ziJ (((w.alloc (cl #[V aa al ac,V oa ol oc,V pa pl pc,V a9 el ec] 110)).alloc (cl #[G tb,V ta tl tc] 85)).alloc (cl #[G ub,V ua ul uc] 85)) a.length w.heap.size so om).ext ((Xe _).alloc (cl #[V (E ⟨w.heap.size+1+1+1,0,O⟩) 0 a.length] 96)));simp only[zL]at a6;clear ai d B N k1 y k3 hl;refine Q0 func157 ntmps157 (h:=?_);gi_wp2;generalize (((((w.alloc (cl #[V aa al ac,V oa ol oc,V pa pl pc,V a9 el ec] 110)).alloc (cl #[G tb,V ta tl tc] 85)).alloc (cl #[G ub,V ua ul uc] 85)).alloc (cl (madeCells #[G false,V O 0 0] (a.length*2)) 85)).alloc (cl #[V (E ⟨w.heap.size+1+1+1,0,O⟩) 0 a.length] 96))=q at *;refine(zq.2 (zex fa ga a.length fc a.length gc q)).mono ?_;rintro e s ⟨rfl,a1⟩;have v:Ext q s:=by rw[a1];exact((Xe q).alloc _).alloc _
 have k1:s.cell? (Xd q.heap.size 0 O)=E (V fa a.length fc):=by rw[a1];exact c_ 0 (Xj _ _ _).1
 have y:s.cell? ⟨q.heap.size+1,0,O⟩=E (V ga a.length gc):=by rw[a1];exact c_ 0 (Xj _ _ _).2
 clear a1 b6;have z:=hX.trans v;have m0:=(v.block _ (zd.1 n0).1).trans n0;have m1:=(v.block _ (zd.1 aj).1).trans aj;have m2:=(v.block _ (zd.1 n2).1).trans n2;have m4:=(v.block _ (zd.1 a2).1).trans a2;have bp:=(zd.1 a2).1;have be:=v.size;have ap:=zf (a6.out.ext v);clear n0 aj n2 bn a2 a6;gi_wp2;refine ZT (zcz a ss aS.out.symm fa ga fc gc q.heap.size (q.heap.size+1) om) rfl (qW func249 kr rfl) (fun k aM W=>by rintro⟨t,_,_,_,rfl⟩;rfl)
  (GwI s w.heap.size (w.heap.size+1+1+1+1) (w.heap.size+1+1+1) a.length (crossQ over xs j ys l)) (fun _ _ _=>False) (fun b=>b=w.heap.size+1+1+1+1\/b=w.heap.size+1+1+1) ?hI ?hIx ?hC ?h0 ?round ?done ?stop
 case hI=>exact fun k a7 A bo h hk=>h.keep hk
 case hIx=>exact fun _ _ _ _ h _=>h
 case hC=>
  rintro k a7 A h;have d:=h.1;exact⟨⟨d.cell (p:=(Xd q.heap.size 0 O)) so k1,d.cell (p:=⟨q.heap.size+1,0,O⟩) so y,((H2.out.ext z).wr2 d (fun Y R e=>by have:=H2.out.lt Y R;omega)).recs,((ao.out.ext z).wr2 d (fun Y R e=>by have:=ao.out.lt Y R;omega)).recs⟩,h.lt⟩
 case h0=>exact⟨Xi _ _,qo _,V (E ⟨w.heap.size+1+1+1,0,O⟩) 0 a.length,[],rfl,m4,ap.out,(fun aJ u h=>by simp at h),(fun b F=> .inl (by simpa[Value.ownBlock]using F.symm)),fun b=>by simp[Value.ownBlock,eq_comm]⟩
 case round=>
  rintro l2 k aM a7 A b4 ⟨t0,s0,bg,bd,rfl⟩ h;have hI:=h;obtain⟨d,B,aM,p,N,Z,Q,h6,h7,h8⟩:=h;have af:k<xs.length:=by have:=H1.out;omega
  have ah:k<ys.length:=by have:=HL.out;omega
  have U:∀b,b=w.heap.size+1+1+1+1\/b=w.heap.size+1+1+1->qK s b:=by
   rintro b (rfl|rfl);·exact zE m4 n1
   ·exact ap.out.dig _ rfl
  have ad:=((H3.out k t0 _ bg (zg af)).below z).wr d U;have ae:=((aO.out k s0 _ bd (zg ah)).below z).wr d U;have aw:=(ht.below z).wr d U;have ax:=(o.below z).wr d U;have av:=(ho.below z).wr d U;have bx:=bi _ (zJ af);have a8:=bj _ (zJ ah);have bc:crossQ over xs j ys l k=(xs[k]*j+ys[k]*l)/(over:Int):=by
   simp only[crossQ,zk,zg af,zg ah,qB]
  generalize xs[k]=ak at *;generalize ys[k]=an at *;have b1:=bx.mul aD;have b2:=a8.mul aE;obtain⟨yb,ya,yl,yc⟩:=t0;obtain⟨pb,a3,a5,a4⟩:=s0;obtain⟨I,J,rfl⟩:=Q.shape;rw[zm]at Z Q h7 h8;simp only[WT.val,WT.sv]at ad ae⊢;unfold Zz;gi_wp2;refine⟨Xf (((Xe A).alloc _).alloc _),fun m a0=>?_⟩;have i:=((zn.alloc s.heap.size A (cl #[G yb,V ya yl yc] 85)).trans (zn.alloc s.heap.size _ (cl #[G pb,V a3 a5 a4] 85))).trans a0;have e0:=a0.block _ _ (Xj A (cl #[G yb,V ya yl yc] 85) (cl #[G pb,V a3 a5 a4] 85)).1 (.inr rfl);have e1:=a0.block _ _ (Xj A (cl #[G yb,V ya yl yc] 85) (cl #[G pb,V a3 a5 a4] 85)).2 (.inr rfl);have e2:=i.block _ _ Z (.inr rfl);have g0:=i.block _ _ (d.some m0 (fun e=>by rcases e with e|e<;>omega)) (.inr rfl);have g1:=i.block _ _ (d.some m1 (fun e=>by rcases e with e|e<;>omega)) (.inr rfl);have g2:=i.block _ _ (d.some m2 (fun e=>by rcases e with e|e<;>omega)) (.inr rfl);have G2:=Q.keep i;have bf:=a0.size;simp only[zL]at bf;have bq:=d.size;have x:∀b,(V I p.length J).ownBlock=E b->b<A.heap.size/\(b=w.heap.size+1+1+1\/s.heap.size<=b):=fun b F=>⟨(Q.type b F).1.lt,h7 b F⟩
  have r:=zf (fun W (g:Wr (fun b=>(V I p.length J).ownBlock=E b) m W)=>
   have q0:=g.some e0 (fun e=>by have:=x _ e;omega);have q1:=g.some e1 (fun e=>by have:=x _ e;omega);have q2:=g.some e2 (fun e=>by have:=x _ e;omega);have r0:=g.some g0 (fun e=>by have:=x _ e;omega);have r1:=g.some g1 (fun e=>by have:=x _ e;omega);have r2:=g.some g2 (fun e=>by have:=x _ e;omega);Xc (c_ 0 q2) (Xc (c_ 0 q0) (Xc (c_ 1 q0) (Xc (c_ 0 r1) (Xc (c_ 1 r1) (Xc (c_ 0 q1) (Xc (c_ 1 q1) (Xc (c_ 0 r2) (Xc (c_ 1 r2) (c_ 1 r0))))))))))
  have aQ:=zf (fun W (g:Wr (fun b=>(V I p.length J).ownBlock=E b) m W)=>(Xg (g.some e2 (fun e=>by have:=x _ e;omega)):W.frozen? ⟨w.heap.size+1+1+1+1,0,O⟩=false));have aT:=zf (fun W (g:Ext m W)=>zam W _ _ ak j K K om ((ad.keep i).below g) ((aw.keep i).below g) (bx.lt hA) (aD.lt hA));have aU:=zf (fun W (g:Ext m W)=>zam W _ _ an l K K om ((ae.keep i).below g) ((ax.keep i).below g) (a8.lt hA) (aE.lt hA));have aR:=zf (fun W X aL (hp:zy W X (ak*j)) (hq:zy W aL (an*l))=>zeF W X aL _ _ K om hp hq (b1.lt om) (b2.lt om));have aP:=zf (fun W X (g:Ext m W) (hp:zy W X (ak*j+an*l))=>zdb K om (zbV K om) W X _ _ over hp ((av.keep i).below g) b7 ((b1.add b2).lt aX) b8);have HM:=zf (fun A4 A5 g5 aV (t:WT) hx4 (bh:zy A4 t.val _) own grow at5 dig=>hI.more (A4:=A4) (A5:=A5) (g5:=g5) (cap5:=aV) (u:=t) b4 bc i hx4 om om Z N Q h6 bh own grow at5 dig);have bs:p.length<=4:=om;clear ad ae aw ax av N B e0 e1 e2 g0 g1 g2 d Z h6 h7 h8 m0 m1 m2 m4 bx a8 b1 b2 hI;refine ZW ?_;refine zav 13 (S:=fun W=>W.cell? ⟨w.heap.size+1+1+1+1,0,O⟩=E (V I p.length J)/\W.cell? (Xd A.heap.size 0 O)=E (G yb)/\W.cell? (Xd A.heap.size 1 O)=E (V ya yl yc)/\W.cell? ⟨w.heap.size+1,0,O⟩=E (G tb)/\W.cell? ⟨w.heap.size+1,1,O⟩=E (V ta tl tc)/\W.cell? ⟨A.heap.size+1,0,O⟩=E (G pb)/\W.cell? ⟨A.heap.size+1,1,O⟩=E (V a3 a5 a4)/\W.cell? ⟨w.heap.size+1+1,0,O⟩=E (G ub)/\W.cell? ⟨w.heap.size+1+1,1,O⟩=E (V ua ul uc)/\W.cell? (Xd w.heap.size 1 O)=E (V oa ol oc)) hm (by rfl) (fun⟨aq,w,h⟩=>h) (r.out m (Xi _ _)) (h:=fun C=>?_);refine tkv 0 ?_;refine tkv 1 ?_;refine tkv 2 ?_;refine tkv 4 ?_;refine tkv 5 ?_;refine tkv 8 ?_;refine tkv 9 ?_;refine rcl 3 (aT.out _ (Xe m).drew) ?_;rintro e A3 ⟨_,rfl,b9,aY⟩;have x3:Ext m A3:=ZG aY;refine bk (r.out _ (Xf x3)) fun C=>?_
  refine rcl 6 (aU.out _ x3) ?_;rintro e A4 ⟨_,rfl,ba,ay⟩;have x4:=x3.trans (Xh ay);refine bk (r.out _ (Xf x4)) fun C=>?_
  refine rcl 7 (aR.out _ _ _ (b9.below (Xh ay)) ba) ?_;rintro e A5 ⟨_,rfl,bb,aZ⟩;have x5:=x4.trans (Xh aZ);refine bk (r.out _ (Xf x5)) fun C=>?_
  refine rcl 10 (aP.out _ _ x5 bb) ?_;rintro e M ⟨_,rfl,aC,b0⟩;have x6:=x5.trans (Xh b0);obtain⟨⟨qb,qa,ql,qc⟩,rfl⟩:=aC.shape;have L:Ext m (M.alloc (cl #[G qb,V qa ql qc] 85)):=x6.alloc _;have aB:=(G2.ext L).own;rw[zm]at aB;have b3:=(G2.ext L).dig;simp only[WT.val,WT.sv];refine bk (r.out _ (Xf x6)) fun C=>?_
  refine rd1 11 fun K D=>?_;go_simp;refine D.out _ _ (r.out _ (Xf L)) (h:=fun C=>?_);clear D K;refine rd1 12 fun K D=>?_;refine QM _ rfl (.tmp 22) (.tmp 33) 96 rfl w.heap.size 85 i0 (ag #[G false,V O 0 0]) 2 32 underlying96 az aG aH aI rfl dc (V I p.length J) p.length (p.map WT.cells).flatten rfl aB ⟨M.heap.size,0,O⟩ 1 1 [G qb,V qa ql qc] rfl rfl (rec_new M [G qb,V qa ql qc] 85) (by intro u o;simp only[zI,zY,Zp]at o;rcases o with rfl|rfl<;>rfl) om mo om (by have d:=L.size;omega) (M.heap.size+1) sp (by intro u o;simp[Value.cells]at o;rcases o with rfl|rfl<;>(intro n e;cases e)) (by intro u o;simp only[zI,zY,Zp]at o;rcases o with rfl|rfl<;>(intro n e;cases e)) b3 ?_;intro g8 aW A8 aK ab ar bl au;have x8:Wr (fun b=>(V I p.length J).ownBlock=E b) m A8:=(Xf L).trans (Qh ab (fun Y R=>R));have HF:=zf (HM.out _ _ g8 aW ⟨qb,qa,ql,qc⟩ L (aC.below ((Xe M).alloc _)) aK ab (ar.imp id (fun e=>so)) au);have s8:=(r.out _ x8).1;clear aK ab ar bl au;refine D.out _ _ (r.out _ x8) (h:=fun C=>?_);clear D K;have f8:=aQ.out _ x8;refine zV kr (zbP (h:=?_)) _;go_simp;exact HF.out
 case done=>
  rintro aN a7 A hD h hd;have hw:=h.1;have b5:(ZJ over xs j ys l).length=a.length:=by rw[zdV _ _ _ _ _ HL.out];exact H1.out.symm
  rw[<-b5]at h;obtain⟨⟨ra,rl,rc⟩,hf,aF⟩:=h.list (fun aJ _=>(JE (f:=fun aq b=>(aq*j+b*l)/(over:Int)) sp HL.out aJ).symm)
  ·have c0:=c_ 0 hf;have HW:=zf aF;have HB:Hid (Below w.heap.size w A):=Qg (hX.trans v) (hw.below (zF hX.size be) (fun b F=>by rcases F with e|e<;>omega));simp only[sl3]at c0 HW⊢;clear hf aF hw h;gi_wp2;refine qh hd ?_;have aA:zn w.heap.size A (A.putObj aN (.deferred O)):=zn.putObj (.deferred O) om hd rfl;exact⟨V ra rl rc,by simp[results,results157,go_sem],(ra,rl,rc),rfl,HW.out.keep aA,aA.below HB.out (zh _) (zh _)⟩
 case stop=>exact fun _ _ _ _ _ _ h _=>h.elim
theorem znR {l:Nat}(n:Nat){P:Program}{v:Array Value}{W:H}{f g:H->Prop}
 (h:YieldAt Fence.wide 0 P l v W fun e a=>(e=Xa (G true)/\f a)\/(e=Xa (G false)/\g a)):
 ∃d tmps b c,(Instr.yield l v).run P W= .ok (.round l d tmps b c) W/\
  RoundIn Fence.wide n P l d tmps b c W fun e a=>∃t,e=Xa (G t)/\Hid ((t=true->f a)/\(t=false->g a)):=by
 obtain⟨d,tmps,b,c,g,f⟩:=Xu n h;refine⟨d,tmps,b,c,g,RoundIn.mono (F:=Fence.wide) f ?_⟩;rintro e a (⟨rfl,a⟩|⟨rfl,a⟩);·exact⟨true,rfl,fun _=>a,fun h=>by cases h⟩
 ·exact⟨false,rfl,(fun h=>by cases h),fun _=>a⟩
def RankY (aims pt:List Int)(k:Nat)(v:Array Value)(W:H):Prop:=∃t:WT,v=#[t.val]/\zy W t.val ((qT aims pt).getD k 0)
def RankC (bo bp:Nat)(fa ga:Option Addr)(fc gc:Nat)(ts ss:List WT)(aims pt:List Int)(W:H):Prop:=
 W.cell? (Xd bo 0 O)=E (V fa ts.length fc)/\W.cell? (Xd bp 0 O)=E (V ga ts.length gc)/\ZS W 85 (V fa ts.length fc) 2 (ts.map WT.cells)/\ZS W 85 (V ga ts.length gc) 2 (ss.map WT.cells)/\(∀(i:Nat) (t:WT) (z:Int),ts[i]? =E t->aims[i]? =E z->zy W t.val z)/\∀(i:Nat) (t:WT) (z:Int),ss[i]? =E t->pt[i]? =E z->zy W t.val z
theorem ziK (fa a:Option Addr)(fl fc c b:Nat)(w:H):
 Calls pg 164 #[ag #[V fa fl fc],V a c b] w fun e w'=>e=Xa (.func (.func 245) #[] #[pn (E (Xd w.heap.size 0 O)),pn (E ⟨w.heap.size+1,0,O⟩)])/\w'=(w.alloc (cl #[V fa fl fc] 107)).alloc (cl #[V a c b] 96):=by
 go_enter func164,ntmps164
 have a:=jR;go_wp2;go_ret;exact⟨rfl,rfl⟩
def RkI (W W3:H)(l:Nat)(fa ga:Option Addr)(fc gc n:Nat)(J:Nat->(Nat->Prop)->H->Prop)(k:Nat)(M:Nat->Prop)(A:H):Prop:=
 J (k+1) M A/\A.cell? (Xd W.heap.size 0 O)=E (.func (.yield l) #[] #[])/\A.cell? ⟨W3.heap.size+1,0,O⟩=E (V fa n fc)/\A.cell? ⟨W3.heap.size+1+1,0,O⟩=E (V ga n gc)/\¬M W.heap.size/\¬M (W3.heap.size+1)/\¬M (W3.heap.size+1+1)
def RkX (Jx:Nat->H->Prop)(c:Code)(k:Nat)(A:H):Prop:=c= .ret/\Jx (k+1) A
theorem zhB {aims pt:List Int}(b:aims.length=pt.length)(k:Nat):(qT aims pt).getD (k+1) 0=if aims.getD k 0<=0 then-pt.getD k 0 else pt.getD k 0:=by
 unfold qT;rw[List.getD_cons_succ];exact JE (f:=fun a r=>if a<=0 then -r else r) sp b k
theorem zhC (K:Nat)(hK:K+K<=1073741823)(bo bp:Nat)(fa ga:Option Addr)(fc gc:Nat)(ts ss:List WT)(aims pt:List Int)(hta:ts.length=aims.length)(hsp:ss.length=pt.length)(hl:aims.length=pt.length)(hn:pt.length<=4){A B:Nat}(hA:Zu A aims)(hB:Zu B pt)(ha:A<4294967296^K)(hb:B<4294967296^K)(hab:4*(A*B)<4294967296^K):
 Ja pg 245 #[pn (E (Xd bo 0 O)),pn (E (Xd bp 0 O))] (pt.length+1) (RankY aims pt) (RankC bo bp fa ga fc gc ts ss aims pt):=by
 intro l J Jx M0 W hJ hJx hC hY h0;obtain⟨hc,hp,t1,t2,t3,t4⟩:=(hC 0 M0 W h0).1;have hts4:ts.length<=4:=by omega
 have hst:ss.length=ts.length:=by omega
 have HC:=zf hC;have HY:=zf hY;have HL:=zf hl;have HTA:=zf hta;have HSP:=zf hsp;have HST:=zf hst;have HV:=zf (fun W1 (h1:Ext W W1)=>zjp K hK W1 (V fa ts.length fc) (V ga ts.length gc) aims pt ⟨ts,hta,t1.ext h1,fun i t z a b=>(t3 i t z a b).below h1⟩ ⟨ss,hsp,t2.ext h1,fun i t z a b=>(t4 i t z a b).below h1⟩ hl (by omega) hA hB ha hb hab);clear hY hC hl hta hsp hst t1 t2 t3 t4;refine Q0 Tryz.func245 Tryz.ntmps245 (h:=?_);have hlt:bo<W.heap.size:=zw hc;have hlp:bp<W.heap.size:=zw hp;have hj1:=hJ _ _ _ _ h0 ((zn.alloc W.heap.size W (cl #[.func (.yield l) #[] #[]] 208)).trans (zn.drew _ _));have q3:=ze _ _ 0 _ _ _ (zC W (cl #[.func (.yield l) #[] #[]] 208));have c1:(W.alloc (cl #[.func (.yield l) #[] #[]] 208)).cell? (Xd bo 0 O)=E (V fa ts.length fc):=((Xe W).alloc _).cell hc;have c2:(W.alloc (cl #[.func (.yield l) #[] #[]] 208)).cell? (Xd bp 0 O)=E (V ga ts.length gc):=((Xe W).alloc _).cell hp;have xW:Ext W (W.alloc (cl #[.func (.yield l) #[] #[]] 208)):=(Xe W).alloc _;have hM0:¬M0 W.heap.size:=fun h=>by have:=(HC.out 0 M0 W h0).2 _ h;omega
 gi_wp2;generalize World.alloc _ _=wA at *;have HYK:Hid (∀(t:WT) (wB:H),zy wB (ag #[G t.b,V t.s.1 t.s.2.1 t.s.2.2]) (T.dotZ aims pt)->Below wA.drew.heap.size wA.drew wB->YieldAt Fence.wide 0 pg l #[ag #[G t.b,V t.s.1 t.s.2.1 t.s.2.2]] wB fun e W'=>(e=Xa (G true)/\(∃M',J 1 M' W'/\(∀x,M' x->M0 x\/wB.heap.size<=x)/\W'.cell? (Xd W.heap.size 0 O)=E (.func (.yield l) #[] #[])/\W.heap.size<wB.heap.size))\/(e=Xa (G false)/\Jx 0 W')):=by
  intro t wB ht hb;have xB:Ext wA wB:=ZG hb;refine zcD (HY.out 0 _ M0 wB (by omega) ⟨t,rfl,ht⟩ (hJ _ _ _ _ hj1 (zn.of_below hb))) ?_;rintro e W' (⟨rfl,hw,M',hj,hM⟩|⟨rfl,hw,hx⟩);·exact .inl ⟨rfl,M',hj,hM,hw.cell (p:=(Xd W.heap.size 0 O)) hM0 (xB.cell q3),by have:=zw q3;have:=xB.size;simp at *;omega⟩
  ·exact .inr ⟨rfl,hx⟩
 refine zcM ?_;have m9:=hm;gi_region_with_o (first|(have _g:=hR;refine hR.mono ?_;rintro e W3 ⟨tt,rfl,hq⟩)|(gi_at_call 94;refine(zq.2 (HV.out _ xW.drew)).mono ?_;rintro e wB ⟨⟨yb,ya,yl,yc⟩,rfl,hyv,hbB⟩;have q0:=(ZG hbB).cell q3;obtain⟨fn,tmps,assign,body,hy,hR⟩:=znR 0 (HYK.out ⟨yb,ya,yl,yc⟩ wB hyv hbB);simp only[WT.val,WT.sv]at hy⊢))
 all_goals
  clear hR hy hyv q0 c1 c2 hbB q3 HYK hc hp hj1 xW;cases tt with
  |false=>
   have hx3:=hq.out.2 rfl;simp only[];gi_wp2;exact⟨_,qI rfl _ _ _,⟨_,rfl⟩,.inr ⟨0,by omega,hx3⟩⟩
  |true=>
   obtain⟨M1,hj3,hM1,q0,hs0⟩:=hq.out.1 rfl;obtain⟨d1,d2,d3,d4,d5,d6⟩:=(HC.out 1 M1 W3 hj3).1;simp only[];gi_wp2;refine(zq.2 (zm6 fa ga ts.length fc ts.length gc W3)).mono ?_;rintro e w1 ⟨rfl,hw1⟩;have x1:Ext W3 w1:=by rw[hw1];exact(((Xe W3).alloc _).alloc _).alloc _
   obtain⟨_,n1,n2,_⟩:=zax W3 (cl #[V fa ts.length fc] 98) (cl #[V fa ts.length fc] 96) (cl #[V ga ts.length gc] 96);rw[<-hw1]at n1 n2;have k1:=ze _ _ 0 _ _ _ n1;have k2:=ze _ _ 0 _ _ _ n2;have hs3:W.heap.size<W3.heap.size:=zw q0;have hMl:=(HC.out 1 M1 W3 hj3).2;have hM1w:¬M1 W.heap.size:=fun h=>by
    rcases hM1 _ h with h|h
    ·exact hM0 h
    ·omega
   have hs1:=x1.size;clear hw1 n1 n2 d1 d2 d3 d4 d5 d6 hM1 hq;gi_wp2;refine zdG (zcz ts ss HST.out.symm fa ga fc gc (W3.heap.size+1) (W3.heap.size+1+1) (by omega)) rfl (qW Tryz.func249 (by kernel_rfl) rfl) (fun k v W=>by rintro⟨t,s,_,_,rfl⟩;rfl)
    (RkI W W3 l fa ga fc gc ts.length J) (RkX Jx) M1 ?hI ?hIx ?hC ?h0 ?round ?done ?stop
   case hI=>
    rintro k M A B ⟨h1,h2,h3,h4,h5⟩ hk;exact⟨hJ _ _ _ _ h1 (hk.mono (by omega)),hk.cell h2,hk.cell h3,hk.cell h4,h5⟩
   case hIx=>exact fun c k A B h hk=>⟨h.1,hJx _ _ _ h.2 (hk.mono (by omega))⟩
   case hC=>
    rintro k M A ⟨h1,h2,h3,h4,h5⟩;have hr:=(HC.out _ M A h1);exact⟨⟨h3,h4,hr.1.2.2.1.recs,hr.1.2.2.2.1.recs⟩,hr.2⟩
   case h0=>exact⟨hJ _ _ _ _ hj3 (zn.of_below x1),x1.cell q0,k1,k2,hM1w,fun h=>by have:=hMl _ h;omega,fun h=>by have:=hMl _ h;omega⟩
   case round=>
    rintro l2 k v M A hkN ⟨t0,s0,ht0,hs0',rfl⟩ ⟨h1,h2,h3,h4,h5,h6,h7⟩;have hka:k<aims.length:=by have:=HTA.out;omega
    have hkp:k<pt.length:=by have:=HL.out;omega
    obtain⟨_,_,_,_,d5,d6⟩:=(HC.out _ M A h1).1;have hWa:=d5 k t0 _ ht0 (zg hka);have hWp:=d6 k s0 _ hs0' (zg hkp);have hr:(qT aims pt).getD (k+1) 0=if aims[k]<=0 then-pt[k]else pt[k]:=by
     rw[zhB HL.out k,zk,zg hka,zk,zg hkp];rfl
    generalize aims[k]=za at *;generalize pt[k]=zp at *;have HR:=zf hr;obtain⟨ab,aa,al,ac⟩:=t0;obtain⟨pb,pa,pl,pc⟩:=s0;simp only[WT.val,WT.sv]at hWa hWp⊢;clear d5 d6 hr ht0 hs0';unfold zdj;gi_wp2;refine⟨Xf (((Xe A).alloc _).alloc _),fun A2 hk2=>?_⟩;have xK:=((zn.alloc w1.heap.size A (cl #[G ab,V aa al ac] 85)).trans (zn.alloc w1.heap.size _ (cl #[G pb,V pa pl pc] 85))).trans hk2;have xA:zn W.heap.size A A2:=xK.mono (by omega);have e0:=hk2.block _ _ (Xj A (cl #[G ab,V aa al ac] 85) (cl #[G pb,V pa pl pc] 85)).1 (.inr rfl);have e1:=hk2.block _ _ (Xj A (cl #[G ab,V aa al ac] 85) (cl #[G pb,V pa pl pc] 85)).2 (.inr rfl);have g0:=xK.cell h2;have a0:=ze _ _ 0 _ _ _ e0;have a1:=ze _ _ 1 _ _ _ e0;have HSG:=zf (sign_any A2 _ za (hWa.keep xA));have HEND:Hid (∀(A5:H) (t:WT),zy A5 t.val (if za<=0 then-zp else zp)->zn w1.heap.size A A5->Wr (fun x=>M x\/A.heap.size<=x) A2 A5->YieldAt Fence.wide 0 pg l #[t.val] A5 fun e W'=>
     (e=Xa (G true)/\zfH M (RkI W W3 l fa ga fc gc ts.length J) (RkX Jx) k A A2 .normal { tmps:=#[],defers:= [] } W')\/(e=Xa (G false)/\zfH M (RkI W W3 l fa ga fc gc ts.length J) (RkX Jx) k A A2 .ret { tmps:=#[],defers:= [] } W')):=by
     intro A5 t ht hk5 hw5;have hs5:=hk5.size;refine zcD (HY.out (k+1) _ M A5 (by omega) ⟨t,rfl,by rw[HR.out];exact ht⟩ (hJ _ _ _ _ h1 (hk5.mono (by omega)))) ?_;have hA1:=zw h3;have hA2:=zw h4;simp only at hA1 hA2;rintro e W' (⟨rfl,hw,M',hj,hM⟩|⟨rfl,hw,hx⟩)
     ·refine .inl ⟨rfl,hw5.trans (hw.mono fun x hx=> .inl hx),M',⟨hj,hw.cell (p:=(Xd W.heap.size 0 O)) h5 (hk5.cell h2),hw.cell (p:=⟨W3.heap.size+1,0,O⟩) h6 (hk5.cell h3),hw.cell (p:=⟨W3.heap.size+1+1,0,O⟩) h7 (hk5.cell h4),fun h=>?_,fun h=>?_,fun h=>?_⟩,fun x hx=>(hM x hx).imp id (fun h=>by omega)⟩
      ·rcases hM _ h with h|h
       ·exact h5 h
       ·omega
      ·rcases hM _ h with h|h
       ·exact h6 h
       ·omega
      ·rcases hM _ h with h|h
       ·exact h7 h
       ·omega
     ·exact .inr ⟨rfl,hw5.trans (hw.mono fun x hx=> .inl hx),rfl,hx⟩
    have HWP:=zf (hWp.keep xA);have hsA:=hk2.size;simp only[zL]at hsA;have hWA:=zw h2;simp only at hWA;clear h1 h2 h3 h4 h5 h6 h7 hWa hWp HY HR e0;gi_wp2;refine(Zq l2 (zq.2 HSG.out)).mono ?_;rintro e A3 ⟨rfl,hb3⟩;have x3:Ext A2 A3:=Xh hb3;have y0:=x3.cell g0;have q1:=(x3.block _ (zd.1 e1).1).trans e1;have p0:=ze _ _ 0 _ _ _ q1;have p1:=ze _ _ 1 _ _ _ q1;have HT:=zf (zau A3 _ zp (HWP.out.below x3));by_cases hz:za<=0
    ·have hsg:za.sign<=0:=by
      rcases zad za 0 with h|h|h
      ·rw[Qi h];decide
      ·rw[h];decide
      ·omega
     have HN:=HEND.out;simp only[zQ hz]at HN;have HN2:=zf HN;generalize za.sign=sg at *;clear HEND HN hz;gi_wp2;refine(Zq l2 (zq.2 HT.out)).mono ?_;rintro e A4 ⟨y,rfl,hy,hb4⟩;obtain⟨⟨rb,ra,rl,rc⟩,rfl⟩:=hy.shape;have x4:=x3.trans (Xh hb4);have q2:=(x4.block _ (zd.1 e1).1).trans e1;have c0:=ze _ _ 0 _ _ _ q2;have c1:=ze _ _ 1 _ _ _ q2;have f0:=Xg (j:=0) q2;have f1:=Xg (j:=1) q2;have y4:=x4.cell g0;have hWs:W.heap.size<A.heap.size+1:=by omega
     have HF:=zf (HN2.out _ ⟨rb,ra,rl,rc⟩ (hy.put c0 c1) (((xK.trans (zn.of_below x4)).fresh (g:=A.heap.size+1) (by omega) 0 _).fresh (g:=A.heap.size+1) (by omega) 1 _) (((Xf x4).trans (zv (U:=fun x=>M x\/A.heap.size<=x) (.inr (by omega)) _)).trans (zv (U:=fun x=>M x\/A.heap.size<=x) (.inr (by omega)) _)));simp only[WT.val,WT.sv]at HF⊢;clear p0 p1 q1 y0 HN2 HT hy hb3 hb4;gi_wp2;refine JS HF.out ?_ ?_
     ·intro W' hW';gi_wp2;exact hW'
     ·intro W' hW';gi_wp2;exact hW'
    ·have hsg:¬za.sign<=0:=by rw[Qs (by omega)];decide
     have HN:=HEND.out;simp only[zO hz]at HN;have HN2:=zf (HN A3 ⟨pb,pa,pl,pc⟩ (HWP.out.below x3) (xK.trans (zn.of_below x3)) (Xf x3));simp only[WT.val,WT.sv]at HN2;generalize za.sign=sg at *;clear HEND HN hz HT;gi_wp2;refine JS HN2.out ?_ ?_
     ·intro W' hW';gi_wp2;exact hW'
     ·intro W' hW';gi_wp2;exact hW'
   case done=>
    rintro D M A hD ⟨h1,h2,h3,h4,h5⟩ hd;gi_wp2;refine qh hd ?_;refine⟨_,qI rfl _ _ _,⟨_,rfl⟩,.inl ⟨M,?_⟩⟩;rw[<-HSP.out,HST.out];exact hJ _ _ _ _ h1 (zn.putObj _ (by omega) hd rfl)
   case stop=>
    rintro D c k A hD hk ⟨rfl,h1⟩ hd;gi_wp2;refine qh hd ?_;exact⟨_,qI rfl _ _ _,⟨_,rfl⟩,.inr ⟨k+1,by have:=HSP.out;have:=HST.out;omega,hJx _ _ _ h1 (zn.putObj _ (by omega) hd rfl)⟩⟩
