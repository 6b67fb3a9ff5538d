import Derived.Test.YthnopjedhcapmaaGreatDoorMvr1Z8
open Option renaming none->O,some->E
open Go.Value renaming slice->V,bool->G,pointer->pn,tuple->tp,int->it,agg->ag
open Go.Obj renaming cells->cl
open Go renaming World->H
open Go.Proofs.Tryz renaming prog->pg
open Go.Proofs.Tryz
open Go.Ending renaming returned->Xa
open Go.IntKind renaming i64->Xb
open Go.Addr renaming mk->Xd
set_option linter.unusedSimpArgs false
set_option linter.unusedVariables false
set_option maxHeartbeats 4000000
set_option maxRecDepth 100000
namespace Go.Proofs.YthnopjedhcapmaaGreatDoor
section
open Go.RowKit
attribute [local go_sem] zD zW qJ
variable {A B:Nat}
theorem ziI(w:H)(a b c d e:Obj):(((((w.alloc a).alloc b).alloc c).alloc d).alloc e).heap[w.heap.size]? =E a/\(((((w.alloc a).alloc b).alloc c).alloc d).alloc e).heap[w.heap.size+1]? =E b/\(((((w.alloc a).alloc b).alloc c).alloc d).alloc e).heap[w.heap.size+1+1]? =E c/\(((((w.alloc a).alloc b).alloc c).alloc d).alloc e).heap[w.heap.size+1+1+1]? =E d/\(((((w.alloc a).alloc b).alloc c).alloc d).alloc e).heap[w.heap.size+1+1+1+1]? =E e/\Ext w (((((w.alloc a).alloc b).alloc c).alloc d).alloc e):=by
 have⟨f,g,h,l⟩:=zax w a b c;have⟨i,j⟩:=Xk (((w.alloc a).alloc b).alloc c) d e;have k:(((w.alloc a).alloc b).alloc c).heap.size=w.heap.size+1+1+1:=sp;rw[k]at i j;have y:Ext _ (((((w.alloc a).alloc b).alloc c).alloc d).alloc e):=((Xe _).alloc _).alloc _;exact⟨(y.block _ (zd.1 f).1).trans f,(y.block _ (zd.1 g).1).trans g,(y.block _ (zd.1 h).1).trans h,i,j,l.trans y⟩
def crossQ (over:Nat)(xs:L_)(zt:Int)(ys:L_)(zu:Int)(i:Nat):Int:=(xs.getD i 0*zt+ys.getD i 0*zu)/(over:Int)
theorem ziJ(w:H)(n a:Nat)(hb:a<=w.heap.size)(b:n<=1000):Grw a 64 2 (w.alloc (cl (madeCells #[G false,V_] (n*2)) 64)) (V (E (Xd w.heap.size 0 O)) 0 n) []:=by
 refine⟨World.ownsRow_made w _ _ hb mo (size_madeCells _ _),fun g a=>?_,fun cs h=>by simp at h⟩;have e:w.heap.size=g:=by simpa[Value.ownBlock]using a
 subst e;exact zE (zC w _) (zqJ (by intro u a;simp at a;rcases a with rfl|rfl<;>(intro n e;cases e)))
theorem zf9(K:Nat)(D:K+K<=1073741800)(w:H)(c:CT)(over:Nat)(ho:NatV w (sl3 c.o) over)(b9:over≠0)(xv yv:Value)(xs ys:List Int)(hx:Zo w xv xs)(hy:Zo w yv ys)(hl:xs.length=ys.length)(hn:xs.length<=4)(t u:WT)(j l:Int)(ht:zy w t.val j)(o:zy w u.val l)(bl:Zu A xs)(bn:Zu A ys)(aF:Lim A j)(aG:Lim A l)(hA:A<4294967296^K)(aZ:A*A+A*A<4294967296^K)(ba:over<4294967296^K):
 Calls pg 162 #[c.val,xv,t.val,yv,u.val] w fun e w'=>∃f:Option Addr×Nat×Nat,e=Xa (sl3 f)/\Zo w' (sl3 f) (ZJ over xs j ys l)/\Below w.heap.size w w':=by
 obtain⟨i0,aB,aI,aJ,aK⟩:=Zn zbW;obtain⟨⟨aa,al,ac⟩,⟨oa,ol,oc⟩,⟨pa,pl,pc⟩,⟨ad,el,ec⟩⟩:=c;obtain⟨tb,⟨ta,tl,tc⟩⟩:=t;obtain⟨ub,⟨ua,ul,uc⟩⟩:=u;obtain⟨a,d,B,U⟩:=hx;obtain⟨ss,k1,y,k3⟩:=hy;obtain⟨fa,fc,rfl⟩:=B.shape;obtain⟨ga,gc,rfl⟩:=y.shape;have ak:ss.length=a.length:=om;rw[zm]at B y;rw[zm,zm];rw[ak]at y⊢;simp only[CT.val,sl3,WT.sv,WT.val]at *;obtain⟨n0,an,n2,bp,a4,hX⟩:=ziI w (cl #[V aa al ac,V oa ol oc,V pa pl pc,V ad el ec] 114) (cl #[G tb,V ta tl tc] 64) (cl #[G ub,V ua ul uc] 64) (cl (madeCells #[G false,V O 0 0] (a.length*2)) 64) (cl #[V (E ⟨w.heap.size+1+1+1,0,O⟩) 0 a.length] 100);have b8:∀W:H,(Instr.makeSlice 100 (it Xb 0) (it Xb (a.length:Nat))).run pg W= .ok (V (E (Xd W.heap.size 0 O)) 0 a.length) (W.alloc (cl (madeCells #[G false,V O 0 0] (a.length*2)) 64)):=by
  intro W;have:=run_make (P:=pg) W 100 64 i0 _ underlying100 aB aI Xb Xb 0 (a.length:Int) om om (by rw[aK];omega) om;rw[aJ,jT]at this;exact this
 have bt:a.length<=4:=om;have aU:=zf ak;have H1:=zf d;have H2:=zf B;have H3:=zf U;have aq:=zf y;have aQ:=zf k3;have HL:=zf hl;have a8:=zf ((ziJ (((w.alloc (cl #[V aa al ac,V oa ol oc,V pa pl pc,V ad el ec] 114)).alloc (cl #[G tb,V ta tl tc] 64)).alloc (cl #[G ub,V ua ul uc] 64)) a.length w.heap.size so om).ext ((Xe _).alloc (cl #[V (E ⟨w.heap.size+1+1+1,0,O⟩) 0 a.length] 100)));simp only[zL]at a8;clear ak d B U k1 y k3 hl;refine Q0 func162 ntmps162 (h:=?_);gi_wp2;generalize (((((w.alloc (cl #[V aa al ac,V oa ol oc,V pa pl pc,V ad el ec] 114)).alloc (cl #[G tb,V ta tl tc] 64)).alloc (cl #[G ub,V ua ul uc] 64)).alloc (cl (madeCells #[G false,V O 0 0] (a.length*2)) 64)).alloc (cl #[V (E ⟨w.heap.size+1+1+1,0,O⟩) 0 a.length] 100))=q at *;refine(zq.2 (zex fa ga a.length fc a.length gc q)).mono ?_;rintro e s ⟨rfl,a3⟩;have v:Ext q s:=by rw[a3];exact((Xe q).alloc _).alloc _
 have k1:s.cell? (Xd q.heap.size 0 O)=E (V fa a.length fc):=by rw[a3];exact c_ 0 (Xk _ _ _).1
 have y:s.cell? ⟨q.heap.size+1,0,O⟩=E (V ga a.length gc):=by rw[a3];exact c_ 0 (Xk _ _ _).2
 clear a3 b8;have z:=hX.trans v;have m0:=(v.block _ (zd.1 n0).1).trans n0;have m1:=(v.block _ (zd.1 an).1).trans an;have m2:=(v.block _ (zd.1 n2).1).trans n2;have m4:=(v.block _ (zd.1 a4).1).trans a4;have br:=(zd.1 a4).1;have bg:=v.size;have ar:=zf (a8.out.ext v);clear n0 an n2 bp a4 a8;gi_wp2;refine ZT (zcz a ss aU.out.symm fa ga fc gc q.heap.size (q.heap.size+1) om) rfl (qW func230 kr rfl) (fun k aO W=>by rintro⟨t,_,_,_,rfl⟩;rfl)
  (GwI s w.heap.size (w.heap.size+1+1+1+1) (w.heap.size+1+1+1) a.length (crossQ over xs j ys l)) (fun _ _ _=>False) (fun b=>b=w.heap.size+1+1+1+1\/b=w.heap.size+1+1+1) ?hI ?hIx ?hC ?h0 ?round ?done ?stop
 case hI=>exact fun k a9 A bq h hk=>h.keep hk
 case hIx=>exact fun _ _ _ _ h _=>h
 case hC=>
  rintro k a9 A h;have d:=h.1;exact⟨⟨d.cell (p:=(Xd q.heap.size 0 O)) so k1,d.cell (p:=⟨q.heap.size+1,0,O⟩) so y,((H2.out.ext z).wr2 d (fun a1 Y e=>by have:=H2.out.lt a1 Y;omega)).recs,((aq.out.ext z).wr2 d (fun a1 Y e=>by have:=aq.out.lt a1 Y;omega)).recs⟩,h.lt⟩
 case h0=>exact⟨Xj _ _,qo _,V (E ⟨w.heap.size+1+1+1,0,O⟩) 0 a.length,[],rfl,m4,ar.out,(fun aL u h=>by simp at h),(fun b I=> .inl (by simpa[Value.ownBlock]using I.symm)),fun b=>by simp[Value.ownBlock,eq_comm]⟩
 case round=>
  rintro l2 k aO a9 A b6 ⟨t0,s0,bi,bf,rfl⟩ h;have hI:=h;obtain⟨d,B,aO,p,U,h4,X,h6,h7,h8⟩:=h;have ai:k<xs.length:=by have:=H1.out;omega
  have aj:k<ys.length:=by have:=HL.out;omega
  have Z:∀b,b=w.heap.size+1+1+1+1\/b=w.heap.size+1+1+1->qK s b:=by
   rintro b (rfl|rfl);·exact zE m4 n1
   ·exact ar.out.dig _ rfl
  have af:=((H3.out k t0 _ bi (zg ai)).below z).wr d Z;have ah:=((aQ.out k s0 _ bf (zg aj)).below z).wr d Z;have ay:=(ht.below z).wr d Z;have az:=(o.below z).wr d Z;have ax:=(ho.below z).wr d Z;have bx:=bl _ (zJ ai);have ab:=bn _ (zJ aj);have be:crossQ over xs j ys l k=(xs[k]*j+ys[k]*l)/(over:Int):=by
   simp only[crossQ,zk,zg ai,zg aj,qB]
  generalize xs[k]=ao at *;generalize ys[k]=ap at *;have b1:=bx.mul aF;have b2:=ab.mul aG;obtain⟨yb,ya,yl,yc⟩:=t0;obtain⟨pb,a5,a7,a6⟩:=s0;obtain⟨J,M,rfl⟩:=X.shape;rw[zm]at h4 X h7 h8;simp only[WT.val,WT.sv]at af ah⊢;unfold Zz;gi_wp2;refine⟨Xg (((Xe A).alloc _).alloc _),fun m a2=>?_⟩;have i:=((zn.alloc s.heap.size A (cl #[G yb,V ya yl yc] 64)).trans (zn.alloc s.heap.size _ (cl #[G pb,V a5 a7 a6] 64))).trans a2;have e0:=a2.block _ _ (Xk A (cl #[G yb,V ya yl yc] 64) (cl #[G pb,V a5 a7 a6] 64)).1 (.inr rfl);have e1:=a2.block _ _ (Xk A (cl #[G yb,V ya yl yc] 64) (cl #[G pb,V a5 a7 a6] 64)).2 (.inr rfl);have e2:=i.block _ _ h4 (.inr rfl);have g0:=i.block _ _ (d.some m0 (fun e=>by rcases e with e|e<;>omega)) (.inr rfl);have g1:=i.block _ _ (d.some m1 (fun e=>by rcases e with e|e<;>omega)) (.inr rfl);have g2:=i.block _ _ (d.some m2 (fun e=>by rcases e with e|e<;>omega)) (.inr rfl);have G2:=X.keep i;have bh:=a2.size;simp only[zL]at bh;have bs:=d.size;have x:∀b,(V J p.length M).ownBlock=E b->b<A.heap.size/\(b=w.heap.size+1+1+1\/s.heap.size<=b):=fun b I=>⟨(X.type b I).1.lt,h7 b I⟩
  have r:=zf (fun W (g:Wr (fun b=>(V J p.length M).ownBlock=E b) m W)=>
   have q0:=g.some e0 (fun e=>by have:=x _ e;omega);have q1:=g.some e1 (fun e=>by have:=x _ e;omega);have q2:=g.some e2 (fun e=>by have:=x _ e;omega);have r0:=g.some g0 (fun e=>by have:=x _ e;omega);have r1:=g.some g1 (fun e=>by have:=x _ e;omega);have r2:=g.some g2 (fun e=>by have:=x _ e;omega);Xc (c_ 0 q2) (Xc (c_ 0 q0) (Xc (c_ 1 q0) (Xc (c_ 0 r1) (Xc (c_ 1 r1) (Xc (c_ 0 q1) (Xc (c_ 1 q1) (Xc (c_ 0 r2) (Xc (c_ 1 r2) (c_ 1 r0))))))))))
  have aS:=zf (fun W (g:Wr (fun b=>(V J p.length M).ownBlock=E b) m W)=>(Xh (g.some e2 (fun e=>by have:=x _ e;omega)):W.frozen? ⟨w.heap.size+1+1+1+1,0,O⟩=false));have aV:=zf (fun W (g:Ext m W)=>zam W _ _ ao j K K om ((af.keep i).below g) ((ay.keep i).below g) (bx.lt hA) (aF.lt hA));have aW:=zf (fun W (g:Ext m W)=>zam W _ _ ap l K K om ((ah.keep i).below g) ((az.keep i).below g) (ab.lt hA) (aG.lt hA));have aT:=zf (fun W a0 aN (hp:zy W a0 (ao*j)) (hq:zy W aN (ap*l))=>zeF W a0 aN _ _ K om hp hq (b1.lt om) (b2.lt om));have aR:=zf (fun W a0 (g:Ext m W) (hp:zy W a0 (ao*j+ap*l))=>zdb K om (zbV K om) W a0 _ _ over hp ((ax.keep i).below g) b9 ((b1.add b2).lt aZ) ba);have HM:=zf (fun A4 A5 g5 aX (t:WT) hx4 (bj:zy A4 t.val _) own grow at5 dig=>hI.more (A4:=A4) (A5:=A5) (g5:=g5) (cap5:=aX) (u:=t) b6 be i hx4 om om h4 U X h6 bj own grow at5 dig);have bu:p.length<=4:=om;clear af ah ay az ax U B e0 e1 e2 g0 g1 g2 d h4 h6 h7 h8 m0 m1 m2 m4 bx ab b1 b2 hI;refine ZW ?_;refine zav 13 (S:=fun W=>W.cell? ⟨w.heap.size+1+1+1+1,0,O⟩=E (V J p.length M)/\W.cell? (Xd A.heap.size 0 O)=E (G yb)/\W.cell? (Xd A.heap.size 1 O)=E (V ya yl yc)/\W.cell? ⟨w.heap.size+1,0,O⟩=E (G tb)/\W.cell? ⟨w.heap.size+1,1,O⟩=E (V ta tl tc)/\W.cell? ⟨A.heap.size+1,0,O⟩=E (G pb)/\W.cell? ⟨A.heap.size+1,1,O⟩=E (V a5 a7 a6)/\W.cell? ⟨w.heap.size+1+1,0,O⟩=E (G ub)/\W.cell? ⟨w.heap.size+1+1,1,O⟩=E (V ua ul uc)/\W.cell? (Xd w.heap.size 1 O)=E (V oa ol oc)) hm (by rfl) (fun⟨au,w,h⟩=>h) (r.out m (Xj _ _)) (h:=fun C=>?_);refine tkl [0,1,2,4,5,8,9] ?_;refine rcl 3 (aV.out _ (Xe m).drew) ?_;rintro e A3 ⟨_,rfl,bb,b0⟩;have x3:=ZG b0;refine bk (r.out _ (Xg x3)) fun C=>?_
  refine rcl 6 (aW.out _ x3) ?_;rintro e A4 ⟨_,rfl,bc,aA⟩;have x4:=x3.trans (Xf aA);refine bk (r.out _ (Xg x4)) fun C=>?_
  refine rcl 7 (aT.out _ _ _ (bb.below (Xf aA)) bc) ?_;rintro e A5 ⟨_,rfl,bd,b3⟩;have x5:=x4.trans (Xf b3);refine bk (r.out _ (Xg x5)) fun C=>?_
  refine rcl 10 (aR.out _ _ x5 bd) ?_;rintro e R ⟨_,rfl,aE,b4⟩;have x6:=x5.trans (Xf b4);obtain⟨⟨qb,qa,ql,qc⟩,rfl⟩:=aE.shape;have N:Ext m (R.alloc (cl #[G qb,V qa ql qc] 64)):=x6.alloc _;have aD:=(G2.ext N).own;rw[zm]at aD;have b5:=(G2.ext N).dig;simp only[WT.val,WT.sv];refine bk (r.out _ (Xg x6)) fun C=>?_
  refine rd1 11 fun K D=>?_;go_simp;refine D.out _ _ (r.out _ (Xg N)) (h:=fun C=>?_);clear D K;refine rd1 12 fun K D=>?_;refine QM _ rfl (.tmp 22) (.tmp 33) 100 rfl w.heap.size 64 i0 (ag #[G false,V O 0 0]) 2 32 underlying100 aB aI aJ aK rfl dc (V J p.length M) p.length (p.map WT.cells).flatten rfl aD ⟨R.heap.size,0,O⟩ 1 1 [G qb,V qa ql qc] rfl rfl (rec_new R [G qb,V qa ql qc] 64) (by intro u o;simp only[zI,zY,Zp]at o;rcases o with rfl|rfl<;>rfl) om mo om (by have d:=N.size;omega) (R.heap.size+1) sp (by intro u o;simp[Value.cells]at o;rcases o with rfl|rfl<;>(intro n e;cases e)) (by intro u o;simp only[zI,zY,Zp]at o;rcases o with rfl|rfl<;>(intro n e;cases e)) b5 ?_;intro g8 aY A8 aM ae av bo aw;have x8:=(Xg N).trans (Qh ae (fun a1 Y=>Y));have HF:=zf (HM.out _ _ g8 aY ⟨qb,qa,ql,qc⟩ N (aE.below ((Xe R).alloc _)) aM ae (av.imp id (fun e=>so)) aw);have s8:=(r.out _ x8).1;clear aM ae av bo aw;refine D.out _ _ (r.out _ x8) (h:=fun C=>?_);clear D K;have f8:=aS.out _ x8;refine zV kr (zbP (h:=?_)) _;go_simp;exact HF.out
 case done=>
  rintro aP a9 A hD h hd;have hw:=h.1;have b7:(ZJ over xs j ys l).length=a.length:=by rw[zdV _ _ _ _ _ HL.out];exact H1.out.symm
  rw[<-b7]at h;obtain⟨⟨ra,rl,rc⟩,hf,aH⟩:=h.list (fun aL _=>(JE (f:=fun au b=>(au*j+b*l)/(over:Int)) sp HL.out aL).symm)
  ·have c0:=c_ 0 hf;have HW:=zf aH;have HB:Hid (Below w.heap.size w A):=Qg (hX.trans v) (hw.below (zF hX.size bg) (fun b I=>by rcases I with e|e<;>omega));simp only[sl3]at c0 HW⊢;clear hf aH hw h;gi_wp2;refine qh hd ?_;have aC:zn w.heap.size A (A.putObj aP (.deferred O)):=zn.putObj (.deferred O) om hd rfl;exact⟨V ra rl rc,by simp[results,results162,go_sem],(ra,rl,rc),rfl,HW.out.keep aC,aC.below HB.out (zh _) (zh _)⟩
 case stop=>exact fun _ _ _ _ _ _ h _=>h.elim
theorem znR{l:Nat}(n:Nat){P:Program}{v:W_}{W:H}{f g:H->Prop}(h:YieldAt Fence.wide 0 P l v W fun e a=>(e=Xa (G true)/\f a)\/(e=Xa (G false)/\g a)):
 ∃d tmps b c,(Instr.yield l v).run P W= .ok (.round l d tmps b c) W/\
  RoundIn Fence.wide n P l d tmps b c W fun e a=>∃t,e=Xa (G t)/\Hid ((t=true->f a)/\(t=false->g a)):=by
 obtain⟨d,tmps,b,c,g,f⟩:=XA n h;refine⟨d,tmps,b,c,g,RoundIn.mono (F:=Fence.wide) f ?_⟩;rintro e a (⟨rfl,a⟩|⟨rfl,a⟩);·exact⟨true,rfl,fun _=>a,fun h=>by cases h⟩
 ·exact⟨false,rfl,(fun h=>by cases h),fun _=>a⟩
def RankY (aims pt:L_)(k:Nat)(v:W_)(W:H):Prop:=∃t:WT,v=#[t.val]/\zy W t.val ((qT aims pt).getD k 0)
def RankC (bo bp:Nat)(fa ga:A_)(fc gc:Nat)(ts ss:List WT)(aims pt:L_)(W:H):Prop:=
 W.cell? (Xd bo 0 O)=E (V fa ts.length fc)/\W.cell? (Xd bp 0 O)=E (V ga ts.length gc)/\ZS W 64 (V fa ts.length fc) 2 (ts.map WT.cells)/\ZS W 64 (V ga ts.length gc) 2 (ss.map WT.cells)/\(∀(i:Nat) (t:WT) (z:Int),ts[i]? =E t->aims[i]? =E z->zy W t.val z)/\∀(i:Nat) (t:WT) (z:Int),ss[i]? =E t->pt[i]? =E z->zy W t.val z
theorem ziK(fa a:A_)(fl fc c b:Nat)(w:H):
 C_ 168 #[ag #[V fa fl fc],V a c b] w fun e w'=>e=Xa (.func (.func 226) #[] #[p_ w.heap.size 0,p_ (w.heap.size+1) 0])/\w'=(w.alloc (cl #[V fa fl fc] 111)).alloc (cl #[V a c b] 100):=by
 go_enter func168,ntmps168
 go_wp2;go_ret;exact⟨rfl,rfl⟩
def RkI (W W3:H)(l:Nat)(fa ga:A_)(fc gc n:Nat)(J:Nat->(Nat->Prop)->H->Prop)(k:Nat)(M:Nat->Prop)(A:H):Prop:=
 J (k+1) M A/\A.cell? (Xd W.heap.size 0 O)=E (.func (.yield l) #[] #[])/\A.cell? ⟨W3.heap.size+1,0,O⟩=E (V fa n fc)/\A.cell? ⟨W3.heap.size+1+1,0,O⟩=E (V ga n gc)/\¬M W.heap.size/\¬M (W3.heap.size+1)/\¬M (W3.heap.size+1+1)
def RkX (Jx:Nat->H->Prop)(c:Code)(k:Nat)(A:H):Prop:=c= .ret/\Jx (k+1) A
theorem zhB{aims pt:L_}(b:aims.length=pt.length)(k:Nat):(qT aims pt).getD (k+1) 0=if aims.getD k 0<=0 then-pt.getD k 0 else pt.getD k 0:=by
 unfold qT;rw[List.getD_cons_succ];exact JE sp b k
theorem zhC(K:Nat)(hK:K+K<=1073741823)(bo bp:Nat)(fa f:A_)(fc i:Nat)(ts ss:List WT)(aims pt:L_)(ai:ts.length=aims.length)(ah:ss.length=pt.length)(hl:aims.length=pt.length)(hn:pt.length<=4)(hA:Zu A aims)(hB:Zu B pt)(ha:A<4294967296^K)(hb:B<4294967296^K)(aQ:4*(A*B)<4294967296^K):
 Ja pg 226 #[p_ bo 0,p_ bp 0] (pt.length+1) (RankY aims pt) (RankC bo bp fa f fc i ts ss aims pt):=by
 intro l a4 Jx Z W J au hC hY h0;obtain⟨hc,hp,t1,t2,t3,t4⟩:=(hC 0 Z W h0).1;have b3:ts.length<=4:=om;have aE:ss.length=ts.length:=om;have X:=zf hC;have HY:=zf hY;have HL:=zf hl;have aK:=zf ai;have ap:=zf ah;have a6:=zf aE;have HV:=zf (fun W1 (a:Ext W W1)=>zjp K hK W1 (V fa ts.length fc) (V f ts.length i) aims pt ⟨ts,ai,t1.ext a,fun ak t ao a7 a8=>(t3 ak t ao a7 a8).below a⟩ ⟨ss,ah,t2.ext a,fun ak t ao a7 a8=>(t4 ak t ao a7 a8).below a⟩ hl om hA hB ha hb aQ);clear hY hC hl ai ah aE t1 t2 t3 t4;refine Q0 func226 ntmps226 (h:=?_);have aY:bo<W.heap.size:=zw hc;have aX:bp<W.heap.size:=zw hp;have aA:=J _ _ _ _ h0 ((zn.alloc W.heap.size W (cl #[.func (.yield l) #[] #[]] 227)).trans (zn.drew _ _));have q3:=c_ 0 (zC W (cl #[.func (.yield l) #[] #[]] 227));have c1:(W.alloc (cl #[.func (.yield l) #[] #[]] 227)).cell? (Xd bo 0 O)=E (V fa ts.length fc):=((Xe W).alloc _).cell hc;have c2:(W.alloc (cl #[.func (.yield l) #[] #[]] 227)).cell? (Xd bp 0 O)=E (V f ts.length i):=((Xe W).alloc _).cell hp;have xW:Ext W (W.alloc (cl #[.func (.yield l) #[] #[]] 227)):=(Xe W).alloc _;have av:¬Z W.heap.size:=fun h=>by have:=(X.out 0 Z W h0).2 _ h;omega
 gi_wp2;generalize World.alloc _ _=wA at *;have ar:Hid (∀(t:WT) (d:H),zy d (ag #[G t.b,V t.s.1 t.s.2.1 t.s.2.2]) (T.dotZ aims pt)->Below wA.drew.heap.size wA.drew d->YieldAt Fence.wide 0 pg l #[ag #[G t.b,V t.s.1 t.s.2.1 t.s.2.2]] d fun e c=>(e=Xa (G true)/\(∃I,a4 1 I c/\(∀x,I x->Z x\/d.heap.size<=x)/\c.cell? (y_ W 0)=E (.func (.yield l) #[] #[])/\W.heap.size<d.heap.size))\/(e=Xa (G false)/\Jx 0 c)):=by
  intro t d ht hb;have xB:=ZG hb;refine zcD (HY.out 0 _ Z d om ⟨t,rfl,ht⟩ (J _ _ _ _ aA (zn.of_below hb))) ?_;rintro e c (⟨rfl,j,I,hj,N⟩|⟨rfl,j,m⟩);·exact .inl ⟨rfl,I,hj,N,j.cell (p:=(y_ W 0)) av (xB.cell q3),by have:=zw q3;have:=xB.size;simp at *;omega⟩
  ·exact .inr ⟨rfl,m⟩
 refine zcM ?_;have aZ:=hm;gi_region_with_o (first|(have _g:=hR;refine hR.mono ?_;rintro e b ⟨tt,rfl,hq⟩)|(gi_at_call 105;refine(zq.2 (HV.out _ xW.drew)).mono ?_;rintro e d ⟨⟨yb,ya,yl,yc⟩,rfl,aH,ae⟩;have q0:=(ZG ae).cell q3;obtain⟨_,_,_,_,S,hR⟩:=znR 0 (ar.out ⟨yb,ya,yl,yc⟩ d aH ae);simp only[WT.val,WT.sv]at S⊢))
 all_goals
  clear hR S aH q0 c1 c2 ae q3 ar hc hp aA xW;cases tt with
  |false=>
   have aT:=hq.out.2 rfl;simp only[];gi_wp2;exact⟨_,qI rfl _ _ _,⟨_,rfl⟩,.inr ⟨0,om,aT⟩⟩
  |true=>
   obtain⟨M1,af,aw,q0,_⟩:=hq.out.1 rfl;obtain⟨d1,d2,d3,d4,d5,d6⟩:=(X.out 1 M1 b af).1;simp only[];gi_wp2;refine(zq.2 (zm6 fa f ts.length fc ts.length i b)).mono ?_;rintro e w1 ⟨rfl,aj⟩;have x1:Ext b w1:=by rw[aj];exact(((Xe b).alloc _).alloc _).alloc _
   obtain⟨_,an,n2,_⟩:=zax b (cl #[V fa ts.length fc] 102) (cl #[V fa ts.length fc] 100) (cl #[V f ts.length i] 100);rw[<-aj]at an n2;have k1:=c_ 0 an;have k2:=c_ 0 n2;have b1:W.heap.size<b.heap.size:=zw q0;have ax:=(X.out 1 M1 b af).2;have aO:¬M1 W.heap.size:=fun h=>by
    rcases aw _ h with h|h
    ·exact av h
    ·omega
   have b0:=x1.size;clear aj an n2 d1 d2 d3 d4 d5 d6 aw hq;gi_wp2;refine zdG (zcz ts ss a6.out.symm fa f fc i (b.heap.size+1) (b.heap.size+1+1) om) rfl (qW func230 kr rfl) (fun k aU W=>by rintro⟨t,_,_,_,rfl⟩;rfl)
    (RkI W b l fa f fc i ts.length a4) (RkX Jx) M1 ?hI ?hIx ?hC ?h0 ?round ?done ?stop
   case hI=>
    rintro k M A B ⟨a,o,q,r,v⟩ y;exact⟨J _ _ _ _ a (y.mono om),y.cell o,y.cell q,y.cell r,v⟩
   case hIx=>exact fun aL k A B h y=>⟨h.1,au _ _ _ h.2 (y.mono om)⟩
   case hC=>
    rintro k M A ⟨a,o,q,r,v⟩;have R:=(X.out _ M A a);exact⟨⟨q,r,R.1.2.2.1.recs,R.1.2.2.2.1.recs⟩,R.2⟩
   case h0=>exact⟨J _ _ _ _ af (zn.of_below x1),x1.cell q0,k1,k2,aO,fun h=>by have:=ax _ h;omega,fun h=>by have:=ax _ h;omega⟩
   case round=>
    rintro l2 k aU M A aW ⟨t0,s0,aF,aD,rfl⟩ ⟨a,o,q,r,v,h6,h7⟩;have aB:k<aims.length:=by have:=aK.out;omega
    have aC:k<pt.length:=by have:=HL.out;omega
    obtain⟨_,_,_,_,d5,d6⟩:=(X.out _ M A a).1;have a9:=d5 k t0 _ aF (zg aB);have ad:=d6 k s0 _ aD (zg aC);have R:(qT aims pt).getD (k+1) 0=if aims[k]<=0 then-pt[k]else pt[k]:=by
     rw[zhB HL.out k,zk,zg aB,zk,zg aC];rfl
    generalize aims[k]=s at *;generalize pt[k]=zp at *;have HR:=zf R;obtain⟨ab,aa,al,ac⟩:=t0;obtain⟨pb,pa,pl,pc⟩:=s0;simp only[WT.val,WT.sv]at a9 ad⊢;clear d5 d6 R aF aD;unfold zdj;gi_wp2;refine⟨Xg (((Xe A).alloc _).alloc _),fun C a5=>?_⟩;have xK:=((zn.alloc w1.heap.size A (cl #[G ab,V aa al ac] 64)).trans (zn.alloc w1.heap.size _ (cl #[G pb,V pa pl pc] 64))).trans a5;have xA:zn W.heap.size A C:=xK.mono om;have e0:=a5.block _ _ (Xk A (cl #[G ab,V aa al ac] 64) (cl #[G pb,V pa pl pc] 64)).1 (.inr rfl);have e1:=a5.block _ _ (Xk A (cl #[G ab,V aa al ac] 64) (cl #[G pb,V pa pl pc] 64)).2 (.inr rfl);have g0:=xK.cell o;have a0:=c_ 0 e0;have a1:=c_ 1 e0;have aJ:=zf (sign_any C _ s (a9.keep xA));have a3:Hid (∀(D:H) (t:WT),zy D t.val (if s<=0 then-zp else zp)->zn w1.heap.size A D->Wr (fun x=>M x\/A.heap.size<=x) C D->YieldAt Fence.wide 0 pg l #[t.val] D fun e c=>
     (e=Xa (G true)/\zfH M (RkI W b l fa f fc i ts.length a4) (RkX Jx) k A C .normal { tmps:=#[],defers:= [] } c)\/(e=Xa (G false)/\zfH M (RkI W b l fa f fc i ts.length a4) (RkX Jx) k A C .ret { tmps:=#[],defers:= [] } c)):=by
     intro D t ht a2 aG;have b2:=a2.size;refine zcD (HY.out (k+1) _ M D om ⟨t,rfl,by rw[HR.out];exact ht⟩ (J _ _ _ _ a (a2.mono om))) ?_;have aM:=zw q;have aN:=zw r;simp only at aM aN;rintro e c (⟨rfl,j,I,hj,N⟩|⟨rfl,j,m⟩)
     ·refine .inl ⟨rfl,aG.trans (j.mono fun x m=> .inl m),I,⟨hj,j.cell (p:=(y_ W 0)) v (a2.cell o),j.cell (p:=(x_ b 0)) h6 (a2.cell q),j.cell (p:=(w_ b 0)) h7 (a2.cell r),fun h=>?_,fun h=>?_,fun h=>?_⟩,fun x m=>(N x m).imp id (fun h=>om)⟩
      ·rcases N _ h with h|h
       ·exact v h
       ·omega
      ·rcases N _ h with h|h
       ·exact h6 h
       ·omega
      ·rcases N _ h with h|h
       ·exact h7 h
       ·omega
     ·exact .inr ⟨rfl,aG.trans (j.mono fun x m=> .inl m),rfl,m⟩
    have aq:=zf (ad.keep xA);have aR:=a5.size;simp only[zL]at aR;have aP:=zw o;simp only at aP;clear a o q r v h6 h7 a9 ad HY HR e0;gi_wp2;refine(Zq l2 (zq.2 aJ.out)).mono ?_;rintro e A3 ⟨rfl,ay⟩;have z:=Xf ay;have y0:=z.cell g0;have q1:=(z.block _ (zd.1 e1).1).trans e1;have p0:=c_ 0 q1;have p1:=c_ 1 q1;have HT:=zf (zau A3 _ zp (aq.out.below z));by_cases hz:s<=0
    ·have aS:s.sign<=0:=by
      rcases zad s 0 with h|h|h
      ·rw[Qi h];decide
      ·rw[h];decide
      ·omega
     have u:=a3.out;simp only[zQ hz]at u;have Y:=zf u;generalize s.sign=sg at *;clear a3 u hz;gi_wp2;refine(Zq l2 (zq.2 HT.out)).mono ?_;rintro e A4 ⟨_,rfl,S,az⟩;obtain⟨⟨rb,ra,rl,rc⟩,rfl⟩:=S.shape;have x4:=z.trans (Xf az);have q2:=(x4.block _ (zd.1 e1).1).trans e1;have c0:=c_ 0 q2;have c1:=c_ 1 q2;have f0:=Xh (j:=0) q2;have f1:=Xh (j:=1) q2;have y4:=x4.cell g0;have aV:W.heap.size<A.heap.size+1:=om;have HF:=zf (Y.out _ ⟨rb,ra,rl,rc⟩ (S.put c0 c1) (((xK.trans (zn.of_below x4)).fresh (g:=A.heap.size+1) om 0 _).fresh (g:=A.heap.size+1) om 1 _) (((Xg x4).trans (zv (U:=fun x=>M x\/A.heap.size<=x) (.inr om) _)).trans (zv (U:=fun x=>M x\/A.heap.size<=x) (.inr om) _)));simp only[WT.val,WT.sv]at HF⊢;clear p0 p1 q1 y0 Y HT S ay az;gi_wp2;refine JS HF.out ?_ ?_
     ·intro c w;gi_wp2;exact w
     ·intro c w;gi_wp2;exact w
    ·have aS:¬s.sign<=0:=by rw[Qs om];decide
     have u:=a3.out;simp only[zO hz]at u;have Y:=zf (u A3 ⟨pb,pa,pl,pc⟩ (aq.out.below z) (xK.trans (zn.of_below z)) (Xg z));simp only[WT.val,WT.sv]at Y;generalize s.sign=sg at *;clear a3 u hz HT;gi_wp2;refine JS Y.out ?_ ?_
     ·intro c w;gi_wp2;exact w
     ·intro c w;gi_wp2;exact w
   case done=>
    rintro aI M A hD ⟨a,o,q,r,v⟩ hd;gi_wp2;refine qh hd ?_;refine⟨_,qI rfl _ _ _,⟨_,rfl⟩,.inl ⟨M,?_⟩⟩;rw[<-ap.out,a6.out];exact J _ _ _ _ a (zn.putObj _ om hd rfl)
   case stop=>
    rintro aI aL k A hD y ⟨rfl,a⟩ hd;gi_wp2;refine qh hd ?_;exact⟨_,qI rfl _ _ _,⟨_,rfl⟩,.inr ⟨k+1,by have:=ap.out;have:=a6.out;omega,au _ _ _ a (zn.putObj _ om hd rfl)⟩⟩
def SgI (w1:H)(g:Nat)(aims pt:L_)(k:Nat)(M:Nat->Prop)(A:H):Prop:=
 Wr (fun b=>b=g) w1 A/\(∀i,i<k->(qT aims pt).getD i 0=0)/\A.heap[g]? =E (cl #[i_ 0] 3)/\∀b,M b↔b=g
def SgX (w:H)(g:Nat)(aims pt:L_)(c:Code)(k:Nat)(A:H):Prop:=
 c= .ret/\(∀i,i<k->(qT aims pt).getD i 0=0)/\(qT aims pt).getD k 0≠0/\A.cell? (Xd g 0 O)=E (i_ ((qT aims pt).getD k 0).sign)/\b_ w A
theorem zjs:∀(l:L_),(∀i,i<l.length->l.getD i 0=0)->Qx l=0
 |[],_=>rfl
 |z::l,h=>by
  have a:=h 0 sp;simp at a;subst a;rw[Qx,zQ sp];exact zjs l (fun i a=>by simpa using h (i+1) (by simpa using a))
theorem zil:∀(l:L_) (k:Nat),(∀i,i<k->l.getD i 0=0)->l.getD k 0≠0->Qx l=(l.getD k 0).sign
 |[],k,_,h=>by simp at h
 |z::l,0,_,h=>by
  simp at h;rw[Qx,zO (by rw[zap];exact h)];simp
 |z::l,k+1,a,h=>by
  have b:=a 0 om;simp at b;subst b;rw[Qx,zQ sp];rw[zil l k (fun i b=>by simpa using a (i+1) om) (by simpa using h)];simp
theorem zl3{aims pt:L_}(a:aims.length=pt.length):(qT aims pt).length=pt.length+1:=by rw[zhs,a,zbG]
theorem zhD(K:Nat)(N:K+K<=1073741823)(w:H)(v u:Value)(aims pt:L_)(i:Zo w v aims)(b:Zo w u pt)(g:aims.length=pt.length)(Z:pt.length<=4)(C:Zu A aims)(M:Zu B pt)(W:A<4294967296^K)(hb:B<4294967296^K)(Y:4*(A*B)<4294967296^K):
 C_ 160 #[ag #[v],u] w fun e w'=>e=Xa (i_ (Qx (qT aims pt)))/\b_ w w':=by
 obtain⟨f,a,c,d⟩:=i;obtain⟨t,o,i,j⟩:=b;obtain⟨fa,k,rfl⟩:=c.shape;obtain⟨q,r,rfl⟩:=i.shape;have b:t.length=f.length:=om;rw[zm]at c i;rw[zm,zm];rw[b]at i⊢;have l:f.length<=4:=om;obtain⟨n0,s⟩:=Xk w (cl #[V fa f.length k] 111) (cl #[i_ 0] 3);have D:Ext w ((w.alloc (cl #[V fa f.length k] 111)).alloc (cl #[i_ 0] 3)):=((Xe w).alloc _).alloc _;have l:=zf b;have z:=zf a;have x:=zf c;have R:=zf d;have J:=zf o;have y:=zf i;have X:=zf j;have S:=zf g;clear b a c d o i j g;refine Q0 func160 ntmps160 (h:=?_);gi_wp2;generalize World.alloc _ _=g at *;refine(zq.2 (ziK fa q f.length k f.length r g)).mono ?_;rintro e l ⟨rfl,m⟩;have b:Ext g l:=by rw[m];exact((Xe g).alloc _).alloc _
 have o:l.cell? (y_ g 0)=E (V fa f.length k):=by rw[m];exact c_ 0 (Xk _ _ _).1
 have i:l.cell? (x_ g 0)=E (V q f.length r):=by rw[m];exact c_ 0 (Xk _ _ _).2
 have j:=D.trans b;have D:=(zd.1 s).1;have I:=(b.block _ D).trans s;have D:=b.size;have D:∀b,b=w.heap.size+1->qK l b:=fun b hb=>by rw[hb];exact zE I n1
 clear m n0 s;gi_wp2;refine ZT (zhC K N g.heap.size (g.heap.size+1) fa q k r f t aims pt z.out J.out S.out Z C M W hb Y) rfl (qW func226 kr rfl) (fun k v W=>by rintro⟨t,rfl,_⟩;rfl)
  (SgI l (w.heap.size+1) aims pt) (SgX w (w.heap.size+1) aims pt) (fun b=>b=w.heap.size+1) ?hI ?hIx ?hC ?h0 ?round ?done ?stop
 case hI=>
  rintro k M A B ⟨a,c,d,f⟩ q;exact⟨a.keep q,c,q.block _ _ d (.inr rfl),f⟩
 case hIx=>
  rintro a2 k A B ⟨a,c,d,f,N⟩ q;exact⟨a,c,d,q.cell f,q.below N j.size (zh _)⟩
 case hC=>
  rintro k M A ⟨a,c,d,f⟩;refine⟨⟨a.cell (p:=(y_ g 0)) so o,a.cell (p:=(x_ g 0)) so i,(x.out.ext j).wr2 a (fun g i e=>by have:=x.out.lt g i;omega),(y.out.ext j).wr2 a (fun g i e=>by have:=y.out.lt g i;omega),fun i t z g b=>((R.out i t z g b).below j).wr a D,fun i t z g b=>((X.out i t z g b).below j).wr a D⟩,fun b hb=>?_⟩;rw[(f b).1 hb];exact(zd.1 d).1
 case h0=>exact⟨Xj _ _,(fun i x=>om),I,fun b=>Qb⟩
 case round=>
  rintro l2 k v M A g ⟨t,rfl,r⟩ ⟨a,c,d,f⟩;obtain⟨z,hz⟩:∃z,(qT aims pt).getD k 0=z:=⟨_,rfl⟩;rw[hz]at r;have g:=zf hz;have R:=zf c;obtain⟨D,y,J,I⟩:=t;simp only[WT.val,WT.sv]at r⊢;clear hz c;unfold Zz;gi_wp2;refine⟨Xg ((Xe A).alloc _),fun o t=>?_⟩;have m:=(zn.alloc l.heap.size A (cl #[G D,V y J I] 64)).trans t;have s:=t.block _ _ (zC A (cl #[G D,V y J I] 64)) (.inr rfl);have t:=m.block _ _ d (.inr rfl);have I:=c_ 0 s;have J:=c_ 1 s;have s:=zf (fun W (y:Ext o W)=>sign_any W _ z ((r.keep m).below y));have Z:=a.keep m;have C:=a.size;have r:=m.size;gi_wp2;refine(Zq l2 (zq.2 (s.out o (Xe _)))).mono ?_;rintro e C ⟨rfl,r⟩;have m:=Xf r;have X:=m.cell I;have Y:=m.cell J;have q1:=(m.block _ (zd.1 t).1).trans t;by_cases r:z=0
  ·have y:z.sign=0:=by rw[r];rfl
   have D:Hid (ZL M (SgI l (w.heap.size+1) aims pt) (SgX w (w.heap.size+1) aims pt) k A o .normal { tmps:=#[],defers:= [] } C):=by
    refine⟨Xg m,M,⟨Z.trans (Xg m),fun i x=>?_,q1,f⟩,fun W W=> .inl W⟩;by_cases W:i<k
    ·exact R.out i W
    ·obtain rfl:i=k:=om;rw[g.out,r]
   rw[y];clear y r s I J X Y;gi_wp2;exact D.out
  ·have y:¬z.sign=0:=by rw[zap];exact r
   have W:=zf (s.out C m);clear s I J;gi_wp2;refine(Zq l2 (zq.2 W.out)).mono ?_;rintro e s ⟨rfl,I⟩;have C:=m.trans (Xf I);have m:=(C.block _ (zd.1 t).1).trans t;have t:=c_ 0 m;have I:=Xh (j:=0) m;have D:Hid (ZL M (SgI l (w.heap.size+1) aims pt) (SgX w (w.heap.size+1) aims pt) k A o .ret { tmps:=#[],defers:= [] } (s.setCell (x_ w 0) (i_ z.sign))):=by
    have l:Wr (fun b=>b=w.heap.size+1) o (s.setCell (x_ w 0) (i_ z.sign)):=(Xg C).trans (zv (U:=fun b=>b=w.heap.size+1) rfl _);refine⟨l.mono fun b hb=>(f b).2 hb,rfl,R.out,by rw[g.out];exact r,?_,Qg j ((Z.trans l).below j.size (fun b hb=>om))⟩;rw[g.out];exact c_ 0 (Xl m)
   clear y W X Y q1;gi_wp2;exact D.out
 case done=>
  rintro D M A r ⟨a,c,d,f⟩ l;have g:Hid (Qx (qT aims pt)=0):=zjs _ (fun i x=>c i (by rw[zl3 S.out]at x;exact x));have t:=c_ 0 d;have I:=Xh (j:=0) d;have m:Wr (fun b=>b=w.heap.size+1) A (A.setCell (x_ w 0) (i_ 0)):=zv (U:=fun b=>b=w.heap.size+1) rfl _;have i:=m.some l (fun e=>om);have o:Hid (b_ w (A.setCell (x_ w 0) (i_ 0))):=Qg j ((a.trans m).below j.size (fun b hb=>om));have j:=c_ 0 (Xl (i:=0) (v:=i_ 0) d);gi_wp2;refine qh i ?_;have a:zn w.heap.size (A.setCell (x_ w 0) (i_ 0)) ((A.setCell (x_ w 0) (i_ 0)).putObj D (.deferred O)):=zn.putObj (.deferred O) om i rfl;have b:((A.setCell (x_ w 0) (i_ 0)).putObj D (.deferred O)).cell? (x_ w 0)=E (i_ 0):=a.cell j;exact⟨i_ 0,by simp[results,results160,go_sem,b],by rw[g.out],a.below o.out (zh _) (zh _)⟩
 case stop=>
  rintro D a2 k A r q ⟨rfl,c,d,f,N⟩ l;have g:=zf (zil _ k c d);generalize ((qT aims pt).getD k 0).sign=sg at *;clear c d;gi_wp2;refine qh l ?_;have a:zn w.heap.size A (A.putObj D (.deferred O)):=zn.putObj (.deferred O) om l rfl;have b:=a.cell f;exact⟨i_ sg,by simp[results,results160,go_sem,b],by rw[g.out],a.below N (zh _) (zh _)⟩
def RnI (w1:H)(g h r:Nat)(k:Nat)(M:Nat->Prop)(A:H):Prop:=
 Wr (fun b=>b=g\/b=h) w1 A/\k<=r/\A.heap[g]? =E (cl #[i_ ((r:Int)-k)] 3)/\A.heap[h]? =E (cl #[G false,V_] 64)/\∀b,M b↔b=g\/b=h
def RnX (w:H)(h:Nat)(z:Int)(c:Code)(_k:Nat)(A:H):Prop:=
 c= .ret/\(∃t:WT,A.cell? (Xd h 0 O)=E (G t.b)/\A.cell? (Xd h 1 O)=E t.sv/\zy A t.val z)/\b_ w A
theorem zoV(K:Nat)(hK:K+K<=1073741823)(w:H)(v u:Value)(aims pt:L_)(g:Zo w v aims)(k:Zo w u pt)(b:aims.length=pt.length)(hn:pt.length<=4)(r:Nat)(a:r<=pt.length)(Z:Zu A aims)(hB:Zu B pt)(ha:A<4294967296^K)(hb:B<4294967296^K)(a2:4*(A*B)<4294967296^K):
 C_ 177 #[ag #[v],u,i_ (r:Nat)] w fun e w'=>∃t:WT,e=Xa t.val/\zy w' t.val ((qT aims pt).getD r 0)/\b_ w w':=by
 obtain⟨f,a,c,d⟩:=g;obtain⟨M,m,j,l⟩:=k;obtain⟨fa,i,rfl⟩:=c.shape;obtain⟨o,q,rfl⟩:=j.shape;have g:M.length=f.length:=om;rw[zm]at c j;rw[zm,zm];rw[g]at j⊢;have s:f.length<=4:=om;obtain⟨n0,s,z,I⟩:=zax w (cl #[V fa f.length i] 111) (cl #[i_ (r:Nat)] 3) (cl #[G false,V_] 64);have R:=zf a;have C:=zf c;have W:=zf d;have S:=zf m;have D:=zf j;have X:=zf l;have Y:=zf b;clear g a c d m j l b;refine Q0 func177 ntmps177 (h:=?_);gi_wp2;generalize World.alloc _ _=g at *;refine(zq.2 (ziK fa o f.length i f.length q g)).mono ?_;rintro e x ⟨rfl,l⟩;have b:Ext g x:=by rw[l];exact((Xe g).alloc _).alloc _
 have m:x.cell? (y_ g 0)=E (V fa f.length i):=by rw[l];exact c_ 0 (Xk _ _ _).1
 have j:x.cell? (x_ g 0)=E (V o f.length q):=by rw[l];exact c_ 0 (Xk _ _ _).2
 have y:=I.trans b;have I:=(zd.1 z).1;have J:=(b.block _ (zd.1 s).1).trans s;have N:=(b.block _ I).trans z;have I:=b.size;have I:∀b,b=w.heap.size+1\/b=w.heap.size+1+1->qK x b:=by
  rintro b (rfl|rfl);·exact zE J n1
  ·exact zE N (by intro u k;simp at k;rcases k with rfl|rfl<;>(intro n e;cases e))
 clear l n0 s z;gi_wp2;refine ZT (zhC K hK g.heap.size (g.heap.size+1) fa o i q f M aims pt R.out S.out Y.out hn Z hB ha hb a2) rfl (qW func226 kr rfl) (fun k v f=>by rintro⟨t,rfl,_⟩;rfl)
  (RnI x (w.heap.size+1) (w.heap.size+1+1) r) (RnX w (w.heap.size+1+1) ((qT aims pt).getD r 0)) (fun b=>b=w.heap.size+1\/b=w.heap.size+1+1) ?hI ?hIx ?hC ?h0 ?round ?done ?stop
 case hI=>
  rintro k M A B ⟨a,c,d,i,f⟩ q;exact⟨a.keep q,c,q.block _ _ d (.inr rfl),q.block _ _ i (.inr rfl),f⟩
 case hIx=>
  rintro a2 k A B ⟨a,⟨t,c,d,i⟩,f⟩ q;exact⟨a,⟨t,q.cell c,q.cell d,i.keep q⟩,q.below f y.size (zh _)⟩
 case hC=>
  rintro k M A ⟨a,c,d,i,f⟩;refine⟨⟨a.cell (p:=(y_ g 0)) so m,a.cell (p:=(x_ g 0)) so j,(C.out.ext y).wr2 a (fun g j e=>by have:=C.out.lt g j;omega),(D.out.ext y).wr2 a (fun g j e=>by have:=D.out.lt g j;omega),fun j t z g b=>((W.out j t z g b).below y).wr a I,fun j t z g b=>((X.out j t z g b).below y).wr a I⟩,fun b hb=>?_⟩;rcases(f b).1 hb with rfl|rfl
  ·exact(zd.1 d).1
  ·exact(zd.1 i).1
 case h0=>exact⟨Xj _ _,qo _,by simpa using J,N,fun b=>Qb⟩
 case round=>
  rintro g k v M A g ⟨t,rfl,J⟩ ⟨a,c,d,i,f⟩;have I:k=r->(qT aims pt).getD k 0=(qT aims pt).getD r 0:=fun e=>by rw[e]
  generalize (qT aims pt).getD k 0=z at *;obtain⟨g,hzr⟩:∃g,(qT aims pt).getD r 0=g:=⟨_,rfl⟩;rw[hzr]at I;have Z:=zf hzr;obtain⟨l,j,o,m⟩:=t;simp only[WT.val,WT.sv]at J⊢;clear hzr;unfold Zz;gi_wp2;refine⟨Xg ((Xe A).alloc _),fun g s=>?_⟩;have R:=(zn.alloc x.heap.size A (cl #[G l,V j o m] 64)).trans s;have D:=s.block _ _ (zC A (cl #[G l,V j o m] 64)) (.inr rfl);have z:=R.block _ _ d (.inr rfl);have s:=R.block _ _ i (.inr rfl);have C:=c_ 0 D;have C:=c_ 1 D;have b0:=c_ 0 z;have C:=Xh (j:=0) z;have N:=a.keep R;by_cases W:k=r
  ·have c0:=c_ 0 s;have c1:=c_ 1 s;have C:=Xh (j:=0) s;have C:=Xh (j:=1) s;have X:((r:Int)-k)=0:=om;have S:Hid (ZL M (RnI x (w.heap.size+1) (w.heap.size+1+1) r) (RnX w (w.heap.size+1+1) ((qT aims pt).getD r 0)) k A g .ret { tmps:=#[],defers:= [] } ((g.setCell (w_ w 0) (G l)).setCell (w_ w 1) (V j o m))):=by
    have C:Wr (fun b=>b=w.heap.size+1\/b=w.heap.size+1+1) g ((g.setCell (w_ w 0) (G l)).setCell (w_ w 1) (V j o m)):=(zv (U:=fun b=>b=w.heap.size+1\/b=w.heap.size+1+1) (.inr rfl) _).trans (zv (U:=fun b=>b=w.heap.size+1\/b=w.heap.size+1+1) (.inr rfl) _);have Y:=Xl (i:=1) (v:=V j o m) (Xl (i:=0) (v:=G l) s);refine⟨C.mono fun b hb=>(f b).2 hb,rfl,⟨⟨l,j,o,m⟩,c_ 0 Y,c_ 1 Y,?_⟩,Qg y ((N.trans C).below y.size (fun b hb=>om))⟩;rw[Z.out,<-I W];exact zy.put (t:=⟨l,j,o,m⟩) (J.keep R) c0 c1
   rw[X]at b0;clear I W J a N D z s X;gi_wp2;exact S.out
  ·have X:¬((r:Int)-k)=0:=om;have y:IntKind.i64.wrap ((r:Int)-k-1)=(r:Int)-(k+1:Nat):=by
    rw[T.wrap_big _ om om];omega
   have S:Hid (ZL M (RnI x (w.heap.size+1) (w.heap.size+1+1) r) (RnX w (w.heap.size+1+1) ((qT aims pt).getD r 0)) k A g .normal { tmps:=#[],defers:= [] } (g.setCell (x_ w 0) (i_ ((r:Int)-(k+1:Nat))))):=by
    have C:Wr (fun b=>b=w.heap.size+1\/b=w.heap.size+1+1) g (g.setCell (x_ w 0) (i_ ((r:Int)-(k+1:Nat)))):=zv (U:=fun b=>b=w.heap.size+1\/b=w.heap.size+1+1) (.inl rfl) _;refine⟨C.mono fun b hb=>(f b).2 hb,M,⟨N.trans C,om,?_,?_,f⟩,fun x b=> .inl b⟩;·rw[Xl z];rfl
    ·exact(qC _ _ _ _ sp).trans s
   clear I W J a N D z s;have b:=S.out;gi_wp2;first|exact b|(rw[y];exact b)|(simpa[y]using b)
 case done=>
  rintro D M A g ⟨a,c,d,i,f⟩ b;omega
 case stop=>
  rintro D a2 k A g q ⟨rfl,⟨⟨l,j,o,m⟩,c,d,i⟩,f⟩ b;simp only[WT.sv,WT.val]at c d i;gi_wp2;refine qh b ?_;have a:zn w.heap.size A (A.putObj D (.deferred O)):=zn.putObj (.deferred O) om b rfl;have b:=a.cell c;have c:=a.cell d;exact⟨ag #[G l,V j o m],by simp[results,results177,go_sem,b,c],⟨l,j,o,m⟩,rfl,i.keep a,a.below f (zh _) (zh _)⟩
theorem zhE(c:CT)(w:H):C_ 101 #[c.val] w fun e w'=>e=Xa (sl3 c.o)/\b_ w w':=by
 obtain⟨⟨_,_,ac⟩,⟨_,_,_⟩,⟨_,_,_⟩,⟨_,_,_⟩⟩:=c;simp only[CT.val,sl3];go_enter func101,ntmps101
 go_wp2;go_ret;exact⟨rfl,(qf _ _).alloc (zh _) _⟩
theorem zgM(c:CT)(w:H):C_ 161 #[c.val] w fun e w'=>e=Xa (.func (.func 255) #[] #[p_ (w.heap.size+1) 0])/\w'=(w.alloc (cl #[sl3 c.a,sl3 c.o,sl3 c.p,sl3 c.e] 114)).alloc (cl #[sl3 c.e] 112):=by
 obtain⟨⟨_,_,ac⟩,⟨_,_,_⟩,⟨_,_,_⟩,⟨a,d,b⟩⟩:=c;simp only[CT.val,sl3];go_enter func161,ntmps161
 go_wp2_with fail
 refine(zj6 a d b _).mono ?_;rintro e a ⟨rfl,rfl⟩;go_wp2;go_ret;exact⟨sp,rfl⟩
def RoI (w1:H)(g:Nat)(ets:List ET)(num:Int)(k:Nat)(M:Nat->Prop)(A:H):Prop:=
 Wr (fun b=>b=g) w1 A/\(∀(i:Nat) (t:ET),i<k->ets[i]? =E t->t.n.num≠num)/\A.heap[g]? =E (cl #[G false] 4)/\∀b,M b↔b=g
def RoX (w:H)(g:Nat)(ets:List ET)(num:Int)(c:Code)(k:Nat)(A:H):Prop:=
 c= .ret/\(∃t,ets[k]? =E t/\t.n.num=num)/\A.cell? (Xd g 0 O)=E (G true)/\b_ w A
theorem zmJ(w:H)(c:CT)(d:List ET)(X:ZS w 194 (sl3 c.e) 5 (d.map ET.cells))(hn:d.length<=1000)(num:Int):
 C_ 186 #[c.val,i_ num] w fun e w'=>e=Xa (G (d.any fun t=>decide (t.n.num=num)))/\b_ w w':=by
 obtain⟨⟨aa,al,ac⟩,⟨oa,ol,oc⟩,⟨pa,pl,pc⟩,⟨y,_,z⟩⟩:=c;simp only[CT.val,sl3]at *;obtain⟨_,_,hE⟩:=X.shape;rw[zm,qp]at hE;obtain⟨rfl,rfl,rfl⟩:=hE;obtain⟨n0,Z,n2,hX⟩:=zax w (cl #[V aa al ac,V oa ol oc,V pa pl pc,V y d.length z] 114) (cl #[i_ num] 3) (cl #[G false] 4);have HE:=zf X;clear X;refine Q0 func186 ntmps186 (h:=?_);gi_wp2;generalize World.alloc _ _=q at *;refine(zq.2 (zgM ⟨(aa,al,ac),(oa,ol,oc),(pa,pl,pc),(y,d.length,z)⟩ q)).mono ?_;rintro e r ⟨rfl,I⟩;simp only[sl3]at I;have K:Ext q r:=by rw[I];exact((Xe q).alloc _).alloc _
 have k1:r.cell? (x_ q 0)=E (V y d.length z):=by rw[I];exact c_ 0 (Xk _ _ _).2
 have s:=hX.trans K;have ab:=(zd.1 n2).1;have m1:=(K.block _ (zd.1 Z).1).trans Z;have m2:=(K.block _ ab).trans n2;have ah:=K.size;clear I n0 Z n2;gi_wp2;refine ZT (zcs d y z (q.heap.size+1) om) rfl (qW func255 kr rfl) (fun k ad ae=>by rintro⟨t,_,rfl⟩;rfl)
  (RoI r (w.heap.size+1+1) d num) (RoX w (w.heap.size+1+1) d num) (fun b=>b=w.heap.size+1+1) ?hI ?hIx ?hC ?h0 ?round ?done ?stop
 case hI=>
  rintro k M A a6 ⟨f,g,a,i⟩ m;exact⟨f.keep m,g,m.block _ _ a (.inr rfl),i⟩
 case hIx=>
  rintro c k A a6 ⟨f,g,a,i⟩ m;exact⟨f,g,m.cell a,m.below i s.size (zh _)⟩
 case hC=>
  rintro k M A ⟨f,g,a,i⟩;refine⟨⟨f.cell (p:=(x_ q 0)) so k1,((HE.out.ext s).wr2 f (fun a8 hg e=>by have:=HE.out.lt a8 hg;omega)).recs⟩,fun b u=>?_⟩;rw[(i b).1 u];exact(zd.1 a).1
 case h0=>exact⟨Xj _ _,(fun o t C=>om),m2,fun b=>Qb⟩
 case round=>
  rintro l2 k ad M A af ⟨t,x,rfl⟩ ⟨f,g,a,i⟩;have HT:=zf x;have a7:=zf g;obtain⟨⟨⟨fa,fl,fc⟩,⟨tb,ta,tl,tc⟩,tn⟩,⟨la,ll,lc⟩⟩:=t;simp only[ET.val,NT.fv,WT.sv,ET.lv]at x⊢;clear x g;unfold Zz;gi_wp2;refine⟨Xg ((Xe A).alloc _),fun j a1=>?_⟩;have xA:=(zn.alloc r.heap.size A (cl #[V fa fl fc,G tb,V ta tl tc,i_ tn,V la ll lc] 194)).trans a1;have W:=a1.block _ _ (zC A (cl #[V fa fl fc,G tb,V ta tl tc,i_ tn,V la ll lc] 194)) (.inr rfl);have l:=xA.block _ _ a (.inr rfl);have a3:=c_ 3 W;have b0:=xA.cell (f.cell (p:=(x_ w 0)) sp (c_ 0 m1));have c0:=c_ 0 l;have f0:=Xh (j:=0) l;have J:=f.keep xA;by_cases a5:tn=num
  ·have N:Hid (ZL M (RoI r (w.heap.size+1+1) d num) (RoX w (w.heap.size+1+1) d num) k A j .ret { tmps:=#[],defers:= [] } (j.setCell (w_ w 0) (G true))):=by
    have a2:Wr (fun b=>b=w.heap.size+1+1) j (j.setCell (w_ w 0) (G true)):=zv (U:=fun b=>b=w.heap.size+1+1) rfl _;exact⟨a2.mono fun b u=>(i b).2 u,rfl,⟨_,HT.out,a5⟩,c_ 0 (Xl l),Qg s ((J.trans a2).below s.size (fun b u=>om))⟩
   clear W l J f a;gi_wp2;exact N.out
  ·have N:Hid (ZL M (RoI r (w.heap.size+1+1) d num) (RoX w (w.heap.size+1+1) d num) k A j .normal { tmps:=#[],defers:= [] } j):=by
    refine⟨Xj _ _,M,⟨J,fun o t C Y=>?_,l,i⟩,fun ai hx=> .inl hx⟩;by_cases a9:o<k
    ·exact a7.out o t a9 Y
    ·obtain rfl:o=k:=om;rw[HT.out]at Y;cases Y;exact a5
   clear W l J f a;gi_wp2;exact N.out
 case done=>
  rintro D M A hD ⟨f,g,a,i⟩ B;have R:Hid ((d.any fun t=>decide (t.n.num=num))=false):=by
   rw[Hid,List.any_eq_false];intro t x;obtain⟨o,C,rfl⟩:=qM x;simpa using g o _ C (zg C)
  have c0:=c_ 0 a;have f0:=Xh (j:=0) a;have a4:Wr (fun b=>b=w.heap.size+1+1) A (A.setCell (w_ w 0) (G false)):=zv (U:=fun b=>b=w.heap.size+1+1) rfl _;have a0:=a4.some B (fun e=>om);have HB:Hid (b_ w (A.setCell (w_ w 0) (G false))):=Qg s ((f.trans a4).below s.size (fun b u=>om));have c9:=c_ 0 (Xl (i:=0) (v:=G false) a);gi_wp2;refine qh a0 ?_;have v:zn w.heap.size (A.setCell (w_ w 0) (G false)) ((A.setCell (w_ w 0) (G false)).putObj D (.deferred O)):=zn.putObj (.deferred O) om a0 rfl;have S:((A.setCell (w_ w 0) (G false)).putObj D (.deferred O)).cell? (w_ w 0)=E (G false):=v.cell c9;exact⟨G false,by simp[results,results186,go_sem,S],by rw[R.out],v.below HB.out (zh _) (zh _)⟩
 case stop=>
  rintro D c k A hD m ⟨rfl,⟨t,g,a⟩,i,h5⟩ B;have R:Hid ((d.any fun t=>decide (t.n.num=num))=true):=by
   rw[Hid,QR];exact⟨t,zx g,by simpa using a⟩
  clear g a;gi_wp2;refine qh B ?_;have v:zn w.heap.size A (A.putObj D (.deferred O)):=zn.putObj (.deferred O) om B rfl;have S:=v.cell i;exact⟨G true,by simp[results,results186,go_sem,S],by rw[R.out],v.below h5 (zh _) (zh _)⟩
def zjt (over:Nat)(xs:L_)(i:Nat):Int:=xs.getD i 0/(over:Int)
theorem zoW(K:Nat)(o:K<=1073741800)(w:H)(c:CT)(over:Nat)(ho:NatV w (sl3 c.o) over)(aJ:over≠0)(xs:List Int)(hx:Zo w (sl3 c.p) xs)(hn:xs.length<=4)(aQ:Zu A xs)(hA:A<4294967296^K)(aK:over<4294967296^K):
 Calls pg 104 #[c.val] w fun e w'=>∃f:Option Addr×Nat×Nat,e=Xa (sl3 f)/\Zo w' (sl3 f) (xs.map fun z=>z/(over:Int))/\Below w.heap.size w w':=by
 obtain⟨i0,ak,au,av,aw⟩:=Zn zbW;obtain⟨⟨aa,al,ac⟩,⟨oa,ol,oc⟩,⟨J,_,M⟩,⟨ah,el,ec⟩⟩:=c;simp only[CT.val,sl3]at *;obtain⟨a,d,C,D⟩:=hx;obtain⟨fa,_,hE⟩:=C.shape;rw[zm,qp]at hE;obtain⟨rfl,rfl,rfl⟩:=hE;obtain⟨n0,aT,U,hX⟩:=zax w (cl #[V aa al ac,V oa ol oc,V J a.length M,V ah el ec] 114) (cl (madeCells #[G false,V O 0 0] (a.length*2)) 64) (cl #[V (E ⟨w.heap.size+1,0,O⟩) 0 a.length] 100);have aY:a.length<=4:=om;have aI:∀W:H,(Instr.makeSlice 100 (it Xb 0) (it Xb (a.length:Nat))).run pg W= .ok (V (E (Xd W.heap.size 0 O)) 0 a.length) (W.alloc (cl (madeCells #[G false,V O 0 0] (a.length*2)) 64)):=by
  intro W;have:=run_make (P:=pg) W 100 64 i0 _ underlying100 ak au Xb Xb 0 (a.length:Int) om om (by rw[aw];omega) om;rw[av,jT]at this;exact this
 have H1:=zf d;have H2:=zf C;have H3:=zf D;have a0:=zf ((ziJ (w.alloc (cl #[V aa al ac,V oa ol oc,V J a.length M,V ah el ec] 114)) a.length w.heap.size sp om).ext ((Xe _).alloc (cl #[V (E ⟨w.heap.size+1,0,O⟩) 0 a.length] 100)));simp only[zL]at a0;clear d C D;refine Q0 func104 ntmps104 (h:=?_);gi_wp2;generalize World.alloc _ _=t at *;refine(zq.2 (zdQ J a.length M t)).mono ?_;rintro e u ⟨rfl,a7⟩;have v:Ext t u:=by rw[a7];exact(Xe t).alloc _
 have k1:u.cell? (Xd t.heap.size 0 O)=E (V J a.length M):=by rw[a7];exact c_ 0 (zC _ _)
 clear a7 aI;have ab:=hX.trans v;have m0:=(v.block _ (zd.1 n0).1).trans n0;have m4:=(v.block _ (zd.1 U).1).trans U;have aW:=(zd.1 U).1;have aM:=v.size;have ad:=zf (a0.out.ext v);clear n0 aT U a0;gi_wp2;refine ZT (JO a J M t.heap.size om) rfl (qW func179 kr rfl) (fun l ay W=>by rintro⟨a8,_,rfl⟩;rfl)
  (GwI u w.heap.size (w.heap.size+1+1) (w.heap.size+1) a.length (zjt over xs)) (fun _ _ _=>False) (fun b=>b=w.heap.size+1+1\/b=w.heap.size+1) ?hI ?hIx ?hC ?h0 ?round ?done ?stop
 case hI=>exact fun l a1 A aV h hk=>h.keep hk
 case hIx=>exact fun _ _ _ _ h _=>h
 case hC=>
  rintro l a1 A h;have d:=h.1;exact⟨⟨d.cell (p:=(Xd t.heap.size 0 O)) so k1,((H2.out.ext ab).wr2 d (fun ai hg e=>by have:=H2.out.lt ai hg;omega)).recs⟩,h.lt⟩
 case h0=>exact⟨Xj _ _,qo _,V (E ⟨w.heap.size+1,0,O⟩) 0 a.length,[],rfl,m4,ad.out,(fun aR a9 h=>by simp at h),(fun b q=> .inl (by simpa[Value.ownBlock]using q.symm)),fun b=>by simp[Value.ownBlock,eq_comm]⟩
 case round=>
  rintro l2 l ay a1 A aG ⟨t0,aO,rfl⟩ h;have hI:=h;obtain⟨d,C,ay,g,D,N,I,h6,h7,h8⟩:=h;have a6:l<xs.length:=by have:=H1.out;omega
  have ao:∀b,b=w.heap.size+1+1\/b=w.heap.size+1->qK u b:=by
   rintro b (rfl|rfl);·exact zE m4 n1
   ·exact ad.out.dig _ rfl
  have a4:=((H3.out l t0 _ aO (zg a6)).below ab).wr d ao;have aj:=(ho.below ab).wr d ao;have bx:=aQ _ (zJ a6);have aL:zjt over xs l=xs[l]/(over:Int):=by
   simp only[zjt,zk,zg a6,qB]
  generalize xs[l]=aU at *;obtain⟨yb,ya,yl,yc⟩:=t0;obtain⟨r,s,rfl⟩:=I.shape;rw[zm]at N I h7 h8;simp only[WT.val,WT.sv]at a4⊢;unfold Zz;gi_wp2;refine⟨Xg ((Xe A).alloc _),fun i a5=>?_⟩;have y:=(zn.alloc u.heap.size A (cl #[G yb,V ya yl yc] 64)).trans a5;have e0:=a5.block _ _ (zC A (cl #[G yb,V ya yl yc] 64)) (.inr rfl);have e2:=y.block _ _ N (.inr rfl);have g0:=y.block _ _ (d.some m0 (fun e=>by rcases e with e|e<;>omega)) (.inr rfl);have G2:=I.keep y;have aN:=a5.size;simp only[zL]at aN;have aX:=d.size;have R:∀b,(V r g.length s).ownBlock=E b->b<A.heap.size/\(b=w.heap.size+1\/u.heap.size<=b):=fun b q=>⟨(I.type b q).1.lt,h7 b q⟩
  have B:=zf (fun W (j:Wr (fun b=>(V r g.length s).ownBlock=E b) i W)=>
   have q0:=j.some e0 (fun e=>by have:=R _ e;omega);have q2:=j.some e2 (fun e=>by have:=R _ e;omega);have r0:=j.some g0 (fun e=>by have:=R _ e;omega);Xc (c_ 0 q2) (Xc (c_ 0 q0) (Xc (c_ 1 q0) (c_ 1 r0))))
  have aB:=zf (fun W (j:Wr (fun b=>(V r g.length s).ownBlock=E b) i W)=>(Xh (j.some e2 (fun e=>by have:=R _ e;omega)):W.frozen? ⟨w.heap.size+1+1,0,O⟩=false));have aA:=zf (fun W (j:Ext i W)=>zdb K om (zbV K om) W _ _ aU over ((a4.keep y).below j) ((aj.keep y).below j) aJ (bx.lt hA) aK);have HM:=zf (fun A4 A5 g5 aC (a8:WT) hx4 (aP:zy A4 a8.val _) own grow at5 dig=>hI.more (A4:=A4) (A5:=A5) (g5:=g5) (cap5:=aC) (u:=a8) aG aL y hx4 om om N D I h6 aP own grow at5 dig);have aZ:g.length<=4:=om;clear a4 aj D C e0 e2 g0 d N h6 h7 h8 m0 m4 bx hI;refine ZW ?_;refine zav 7 (S:=fun W=>W.cell? ⟨w.heap.size+1+1,0,O⟩=E (V r g.length s)/\W.cell? (Xd A.heap.size 0 O)=E (G yb)/\W.cell? (Xd A.heap.size 1 O)=E (V ya yl yc)/\W.cell? (Xd w.heap.size 1 O)=E (V oa ol oc)) hm (by rfl) (fun⟨_,w,h⟩=>h) (B.out i (Xj _ _)) (h:=fun a3=>?_);refine tkl [0,1,2,3] ?_;refine rcl 4 (aA.out _ (Xe i).drew) ?_;rintro e m ⟨_,rfl,aq,aE⟩;have x6:=ZG aE;obtain⟨⟨Y,X,ql,Z⟩,rfl⟩:=aq.shape;have x:Ext i (m.alloc (cl #[G Y,V X ql Z] 64)):=x6.alloc _;have ap:=(G2.ext x).own;rw[zm]at ap;have aF:=(G2.ext x).dig;simp only[WT.val,WT.sv];refine bk (B.out _ (Xg x6)) fun a3=>?_
  refine rd1 5 fun K o=>?_;go_simp;refine o.out _ _ (B.out _ (Xg x)) (h:=fun a3=>?_);clear o K;refine rd1 6 fun K o=>?_;refine QM _ rfl (.tmp 13) (.tmp 18) 100 rfl w.heap.size 64 i0 (ag #[G false,V O 0 0]) 2 32 underlying100 ak au av aw rfl dc (V r g.length s) g.length (g.map WT.cells).flatten rfl ap ⟨m.heap.size,0,O⟩ 1 1 [G Y,V X ql Z] rfl rfl (rec_new m [G Y,V X ql Z] 64) (by intro a9 k;simp only[zI,zY,Zp]at k;rcases k with rfl|rfl<;>rfl) om mo om (by have d:=x.size;omega) (m.heap.size+1) sp (by intro a9 k;simp[Value.cells]at k;rcases k with rfl|rfl<;>(intro n e;cases e)) (by intro a9 k;simp only[zI,zY,Zp]at k;rcases k with rfl|rfl<;>(intro n e;cases e)) aF ?_;intro g8 aD A8 ax a2 ae aS af;have x8:=(Xg x).trans (Qh a2 (fun ai hg=>hg));have HF:=zf (HM.out _ _ g8 aD ⟨Y,X,ql,Z⟩ x (aq.below ((Xe m).alloc _)) ax a2 (ae.imp id (fun e=>so)) af);have s8:=(B.out _ x8).1;clear ax a2 ae aS af;refine o.out _ _ (B.out _ x8) (h:=fun a3=>?_);clear o K;have f8:=aB.out _ x8;refine zV kr (zbP (h:=?_)) _;go_simp;exact HF.out
 case done=>
  rintro az a1 A hD h hd;have hw:=h.1;have aH:(xs.map fun z=>z/(over:Int)).length=a.length:=by rw[zm];exact H1.out.symm
  rw[<-aH]at h;obtain⟨⟨ra,rl,rc⟩,hf,ar⟩:=h.list (fun aR hi=>by
   rw[zm]at hi;simp only[zjt,zk,zR,zg hi,qY,qB])
  have c0:=c_ 0 hf;have HW:=zf ar;have HB:Hid (Below w.heap.size w A):=Qg (hX.trans v) (hw.below (zF hX.size aM) (fun b q=>by rcases q with e|e<;>omega));simp only[sl3]at c0 HW⊢;clear hf ar hw h;gi_wp2;refine qh hd ?_;have an:zn w.heap.size A (A.putObj az (.deferred O)):=zn.putObj (.deferred O) om hd rfl;exact⟨V ra rl rc,by simp[results,results104,go_sem],(ra,rl,rc),rfl,HW.out.keep an,an.below HB.out (zh _) (zh _)⟩
 case stop=>exact fun _ _ _ _ _ _ h _=>h.elim
theorem zem(w:H)(a b c d:Obj):((((w.alloc a).alloc b).alloc c).alloc d).heap[w.heap.size]? =E a/\((((w.alloc a).alloc b).alloc c).alloc d).heap[w.heap.size+1]? =E b/\((((w.alloc a).alloc b).alloc c).alloc d).heap[w.heap.size+1+1]? =E c/\((((w.alloc a).alloc b).alloc c).alloc d).heap[w.heap.size+1+1+1]? =E d/\Ext w ((((w.alloc a).alloc b).alloc c).alloc d):=by
 obtain⟨e,f,g,j⟩:=zax w a b c;have h:=zC (((w.alloc a).alloc b).alloc c) d;have i:(((w.alloc a).alloc b).alloc c).heap.size=w.heap.size+1+1+1:=sp;rw[i]at h;have y:Ext (((w.alloc a).alloc b).alloc c) ((((w.alloc a).alloc b).alloc c).alloc d):=(Xe _).alloc _;exact⟨(y.block _ (zd.1 e).1).trans e,(y.block _ (zd.1 f).1).trans f,(y.block _ (zd.1 g).1).trans g,h,j.trans y⟩
def stepQ (oc od:Nat)(xs ys:L_)(i:Nat):Int:=xs.getD i 0*(od:Int)-ys.getD i 0*(oc:Int)
theorem zoX(K:Nat)(x:K+K<=1073741800)(w:H)(c d:CT)(k l:Nat)(ad:NatV w (sl3 c.o) k)(ap:NatV w (sl3 d.o) l)(xs ys aims:List Int)(m:Zo w (sl3 c.p) xs)(v:Zo w (sl3 d.p) ys)(i:Zo w (sl3 c.a) aims)(hl:xs.length=ys.length)(g:xs.length<=4)(a0:aims.length=xs.length)(ai:Zu B xs)(ao:Zu B ys)(ae:k<=B)(af:l<=B)(hB:B<4294967296^K)(aD:B*B+B*B<4294967296^K)(aH:Zu A aims)(hA:A<4294967296^K)(aC:4*(A*(B*B+B*B))<4294967296^K):
 Calls pg 100 #[c.val,d.val] w fun e w'=>e=Xa (G (decide (0<Qx (qT aims (List.zipWith (fun a b=>a*(l:Int)-b*(k:Int)) xs ys)))))/\Below w.heap.size w w':=by
 obtain⟨i0,ah,aj,ak,an⟩:=Zn zbW;obtain⟨⟨X,Y,ac⟩,⟨oa,ol,oc⟩,⟨j,_,r⟩,⟨M,el,Z⟩⟩:=c;obtain⟨⟨o,u,s⟩,⟨ob,a6,on⟩,⟨q,_,t⟩,⟨U,em,en⟩⟩:=d;simp only[CT.val,sl3]at *;obtain⟨h,g,D,I⟩:=m;obtain⟨ss,z,p,k3⟩:=v;obtain⟨vs,v1,v2,v3⟩:=i;obtain⟨fa,_,i⟩:=D.shape;rw[zm,qp]at i;obtain⟨rfl,rfl,rfl⟩:=i;obtain⟨_,_,i⟩:=p.shape;have m:ss.length=h.length:=om;rw[zm,m,qp]at i;obtain⟨rfl,rfl,rfl⟩:=i;have i:h.length<=4:=om;obtain⟨C,J,a4,v,hX⟩:=zem w (cl #[V X Y ac,V oa ol oc,V j h.length r,V M el Z] 114) (cl #[V o u s,V ob a6 on,V q h.length t,V U em en] 114) (cl (madeCells #[G false,V O 0 0] (h.length*2)) 64) (cl #[V (E ⟨w.heap.size+1+1,0,O⟩) 0 h.length] 100);have a3:∀W:H,(Instr.makeSlice 100 (it Xb 0) (it Xb (h.length:Nat))).run pg W= .ok (V (E (Xd W.heap.size 0 O)) 0 h.length) (W.alloc (cl (madeCells #[G false,V O 0 0] (h.length*2)) 64)):=by
  intro W;have:=run_make (P:=pg) W 100 64 i0 _ underlying100 ah aj Xb Xb 0 (h.length:Int) om om (by rw[an];omega) om;rw[ak,jT]at this;exact this
 have a2:=zf m;have H1:=zf g;have N:=zf D;have H3:=zf I;have R:=zf p;have a1:=zf k3;have HL:=zf hl;have au:=zf a0;have aA:=zf v1;have a8:=zf v2;have aB:=zf v3;have y:=zf ((ziJ ((w.alloc (cl #[V X Y ac,V oa ol oc,V j h.length r,V M el Z] 114)).alloc (cl #[V o u s,V ob a6 on,V q h.length t,V U em en] 114)) h.length w.heap.size so om).ext ((Xe _).alloc (cl #[V (E ⟨w.heap.size+1+1,0,O⟩) 0 h.length] 100)));simp only[zL]at y;clear m g D I z p k3 hl a0 v1 v2 v3;refine Q0 func100 ntmps100 (h:=?_);gi_wp2;generalize World.alloc _ _=m at *;refine(zq.2 (zex j q h.length r h.length t m)).mono ?_;rintro e o ⟨rfl,i⟩;have u:Ext m o:=by rw[i];exact((Xe m).alloc _).alloc _
 have z:o.cell? (Xd m.heap.size 0 O)=E (V j h.length r):=by rw[i];exact c_ 0 (Xk _ _ _).1
 have p:o.cell? ⟨m.heap.size+1,0,O⟩=E (V q h.length t):=by rw[i];exact c_ 0 (Xk _ _ _).2
 clear i a3;have s:=hX.trans u;have m0:=(u.block _ (zd.1 C).1).trans C;have m1:=(u.block _ (zd.1 J).1).trans J;have m4:=(u.block _ (zd.1 v).1).trans v;have i:=(zd.1 v).1;have aG:=u.size;have Z:=zf (y.out.ext u);have M:∀b,b=w.heap.size+1+1+1\/b=w.heap.size+1+1->qK o b:=by
  rintro b (rfl|rfl);·exact zE m4 n1
  ·exact Z.out.dig _ rfl
 clear C J a4 v y;gi_wp2;refine ZT (zcz h ss a2.out.symm j q r t m.heap.size (m.heap.size+1) om) rfl (qW func230 kr rfl) (fun j q W=>by rintro⟨U,_,_,_,rfl⟩;rfl)
  (GwI o w.heap.size (w.heap.size+1+1+1) (w.heap.size+1+1) h.length (stepQ k l xs ys)) (fun _ _ _=>False) (fun b=>b=w.heap.size+1+1+1\/b=w.heap.size+1+1) ?hI ?hIx ?hC ?h0 ?round ?done ?stop
 case hI=>exact fun j a0 A B i r=>i.keep r
 case hIx=>exact fun _ _ _ _ i _=>i
 case hC=>
  rintro j a0 A i;have g:=i.1;exact⟨⟨g.cell (p:=(Xd m.heap.size 0 O)) so z,g.cell (p:=⟨m.heap.size+1,0,O⟩) so p,((N.out.ext s).wr2 g (fun v t e=>by have:=N.out.lt v t;omega)).recs,((R.out.ext s).wr2 g (fun v t e=>by have:=R.out.lt v t;omega)).recs⟩,i.lt⟩
 case h0=>exact⟨Xj _ _,qo _,V (E ⟨w.heap.size+1+1,0,O⟩) 0 h.length,[],rfl,m4,Z.out,(fun R a7 i=>by simp at i),(fun b y=> .inl (by simpa[Value.ownBlock]using y.symm)),fun b=>by simp[Value.ownBlock,eq_comm]⟩
 case round=>
  rintro m j q a0 A aE ⟨z,r,N,C,rfl⟩ i;have hI:=i;obtain⟨g,D,q,p,I,Z,J,h6,h7,h8⟩:=i;have m:j<xs.length:=by have:=H1.out;omega
  have q:j<ys.length:=by have:=HL.out;omega
  have a4:=((H3.out j z _ N (zg m)).below s).wr g M;have a5:=((a1.out j r _ C (zg q)).below s).wr g M;have a9:=(ad.below s).wr g M;have ad:=(ap.below s).wr g M;have bx:=ai _ (zJ m);have a3:=ao _ (zJ q);have aF:stepQ k l xs ys j=xs[j]*(l:Int)-ys[j]*(k:Int):=by
   simp only[stepQ,zk,zg m,zg q,qB]
  generalize xs[j]=ap at *;generalize ys[j]=aq at *;have a1:=Xq ae;have a2:=Xq af;have b1:=bx.mul a2;have b2:=a3.mul a1;obtain⟨yb,ya,yl,yc⟩:=z;obtain⟨zb,za,zl,zc⟩:=r;obtain⟨z,C,rfl⟩:=J.shape;rw[zm]at Z J h7 h8;simp only[WT.val,WT.sv]at a4 a5⊢;unfold Zz;gi_wp2;refine⟨Xg (((Xe A).alloc _).alloc _),fun m j=>?_⟩;have q:=((zn.alloc o.heap.size A (cl #[G yb,V ya yl yc] 64)).trans (zn.alloc o.heap.size _ (cl #[G zb,V za zl zc] 64))).trans j;have e0:=j.block _ _ (Xk A (cl #[G yb,V ya yl yc] 64) (cl #[G zb,V za zl zc] 64)).1 (.inr rfl);have e1:=j.block _ _ (Xk A (cl #[G yb,V ya yl yc] 64) (cl #[G zb,V za zl zc] 64)).2 (.inr rfl);have e2:=q.block _ _ Z (.inr rfl);have g0:=q.block _ _ (g.some m0 (fun e=>by rcases e with e|e<;>omega)) (.inr rfl);have g1:=q.block _ _ (g.some m1 (fun e=>by rcases e with e|e<;>omega)) (.inr rfl);have G2:=J.keep q;have r:=j.size;simp only[zL]at r;have j:=g.size;have r:∀b,(V z p.length C).ownBlock=E b->b<A.heap.size/\(b=w.heap.size+1+1\/o.heap.size<=b):=fun b y=>⟨(J.type b y).1.lt,h7 b y⟩
  have o:=zf (fun W (j:Wr (fun b=>(V z p.length C).ownBlock=E b) m W)=>
   have N:=j.some e0 (fun e=>by have:=r _ e;omega);have q1:=j.some e1 (fun e=>by have:=r _ e;omega);have q2:=j.some e2 (fun e=>by have:=r _ e;omega);have r0:=j.some g0 (fun e=>by have:=r _ e;omega);have r1:=j.some g1 (fun e=>by have:=r _ e;omega);Xc (c_ 0 q2) (Xc (c_ 0 N) (Xc (c_ 1 N) (Xc (c_ 0 q1) (Xc (c_ 1 q1) (Xc (c_ 1 r1) (c_ 1 r0)))))))
  have ar:=zf (fun W (j:Wr (fun b=>(V z p.length C).ownBlock=E b) m W)=>(Xh (j.some e2 (fun e=>by have:=r _ e;omega)):W.frozen? ⟨w.heap.size+1+1+1,0,O⟩=false));have av:=zf (fun W (j:Ext m W)=>zaR W _ l ((ad.keep q).below j));have aw:=zf (fun W (j:Ext m W)=>zaR W _ k ((a9.keep q).below j));have ay:=zf (fun W r (j:Ext m W) (N:zy W r (l:Int))=>zam W _ r ap l K K om ((a4.keep q).below j) N (bx.lt hB) (a2.lt hB));have az:=zf (fun W r (j:Ext m W) (N:zy W r (k:Int))=>zam W _ r aq k K K om ((a5.keep q).below j) N (a3.lt hB) (a1.lt hB));have ax:=zf (fun W r j (N:zy W r (ap*l)) (hq:zy W j (aq*k))=>zgD W r j _ _ K om N hq (b1.lt om) (b2.lt om));have HM:=zf (fun j A5 N r (U:WT) hx4 (ap:zy j U.val _) own grow at5 dig=>hI.more (A4:=j) (A5:=A5) (g5:=N) (cap5:=r) (u:=U) aE aF q hx4 om om Z I J h6 ap own grow at5 dig);have q:p.length<=4:=om;clear a4 a5 a9 ad I D e0 e1 e2 g0 g1 g Z h6 h7 h8 m0 m1 m4 bx a3 b1 b2 a1 a2 hI;refine ZW ?_;refine zav 14 (S:=fun W=>W.cell? ⟨w.heap.size+1+1+1,0,O⟩=E (V z p.length C)/\W.cell? (Xd A.heap.size 0 O)=E (G yb)/\W.cell? (Xd A.heap.size 1 O)=E (V ya yl yc)/\W.cell? ⟨A.heap.size+1,0,O⟩=E (G zb)/\W.cell? ⟨A.heap.size+1,1,O⟩=E (V za zl zc)/\W.cell? ⟨w.heap.size+1,1,O⟩=E (V ob a6 on)/\W.cell? (Xd w.heap.size 1 O)=E (V oa ol oc)) hm (by rfl) (fun⟨a,w,i⟩=>i) (o.out m (Xj _ _)) (h:=fun q=>?_);refine tkl [0,1,2,3,6,7,8] ?_;refine rcl 4 (av.out _ (Xe m).drew) ?_;rintro e r ⟨_,rfl,D,J⟩;have N:=ZG J;refine bk (o.out _ (Xg N)) fun q=>?_
  refine rcl 5 (ay.out _ _ N D) ?_;rintro e j ⟨_,rfl,Z,D⟩;have j:=N.trans (Xf D);refine bk (o.out _ (Xg j)) fun q=>?_
  refine rcl 9 (aw.out _ j) ?_;rintro e A5 ⟨_,rfl,W,I⟩;have D:=j.trans (Xf I);refine bk (o.out _ (Xg D)) fun q=>?_
  refine rcl 10 (az.out _ _ D W) ?_;rintro e j ⟨_,rfl,a1,j⟩;have W:=D.trans (Xf j);refine bk (o.out _ (Xg W)) fun q=>?_
  refine rcl 11 (ax.out _ _ _ ((Z.below (Xf I)).below (Xf j)) a1) ?_;rintro e I ⟨_,rfl,a3,j⟩;have x9:=W.trans (Xf j);obtain⟨⟨Z,W,ql,qc⟩,rfl⟩:=a3.shape;have D:Ext m (I.alloc (cl #[G Z,V W ql qc] 64)):=x9.alloc _;have j:=(G2.ext D).own;rw[zm]at j;have a1:=(G2.ext D).dig;simp only[WT.val,WT.sv];refine bk (o.out _ (Xg x9)) fun q=>?_
  refine rd1 12 fun K x=>?_;go_simp;refine x.out _ _ (o.out _ (Xg D)) (h:=fun q=>?_);clear x K;refine rd1 13 fun K x=>?_;refine QM _ rfl (.tmp 19) (.tmp 31) 100 rfl w.heap.size 64 i0 (ag #[G false,V O 0 0]) 2 32 underlying100 ah aj ak an rfl dc (V z p.length C) p.length (p.map WT.cells).flatten rfl j ⟨I.heap.size,0,O⟩ 1 1 [G Z,V W ql qc] rfl rfl (rec_new I [G Z,V W ql qc] 64) (by intro a7 j;simp only[zI,zY,Zp]at j;rcases j with rfl|rfl<;>rfl) om mo om (by have g:=D.size;omega) (I.heap.size+1) sp (by intro a7 j;simp[Value.cells]at j;rcases j with rfl|rfl<;>(intro n e;cases e)) (by intro a7 j;simp only[zI,zY,Zp]at j;rcases j with rfl|rfl<;>(intro n e;cases e)) a1 ?_;intro g8 a5 A8 a4 j a1 a6 a2;have x8:=(Xg D).trans (Qh j (fun v t=>t));have m:=zf (HM.out _ _ g8 a5 ⟨Z,W,ql,qc⟩ D (a3.below ((Xe I).alloc _)) a4 j (a1.imp id (fun e=>so)) a2);have p:=(o.out _ x8).1;clear a4 j a1 a6 a2;refine x.out _ _ (o.out _ x8) (h:=fun q=>?_);clear x K;have j:=ar.out _ x8;refine zV kr (zbP (h:=?_)) _;go_simp;exact m.out
 case done=>
  rintro D a0 A j i x;have g:=i.1;obtain⟨j,m⟩:∃j,List.zipWith (fun a b=>a*(l:Int)-b*(k:Int)) xs ys=j:=⟨_,rfl⟩;have o:j.length=h.length:=by rw[<-m,jY,<-HL.out,zbG];exact H1.out.symm
  have W:Zu (B*B+B*B) j:=by
   rw[<-m];intro h q;obtain⟨R,p,rfl⟩:=qM q;rw[zbX];rw[jY]at p;exact((ai _ (zJ om)).mul (Xq af)).sub ((ao _ (zJ om)).mul (Xq ae))
  rw[<-o]at i;obtain⟨⟨ra,rl,rc⟩,z,I⟩:=i.list (fun R _=>by rw[<-m];exact(JE (f:=fun a b=>a*(l:Int)-b*(k:Int)) sp HL.out R).symm);have q:=c_ 0 z;have r0:=g.some m0 (fun e=>by rcases e with e|e<;>omega);have Z:=c_ 0 r0;have C:Zo A (V X Y ac) aims:=⟨vs,aA.out,(a8.out.ext s).wr2 g (fun v t e=>by have:=a8.out.lt v t;omega),fun R U h a b=>((aB.out R U h a b).below s).wr g M⟩;have p:=zf (zhD K om A (V X Y ac) (V ra rl rc) aims j C I (by rw[au.out,o];exact H1.out.symm) om aH W hA aD aC);have h:Hid (Below w.heap.size w A):=Qg (hX.trans u) (g.below (zF hX.size aG) (fun b y=>by rcases y with e|e<;>omega));have s:=zf m;simp only[sl3]at q;clear z I C r0 i o W m g;gi_wp2;refine(zq.2 p.out).mono ?_;rintro e r ⟨rfl,J⟩;have N:=Xf J;have g:=(N.block D (zd.1 x).1).trans x;have m:Hid (Below w.heap.size w r):=h.out.trans (J.mono h.out.size);generalize h:Qx (qT aims j)=sg at *;have j:Hid (decide (0<Qx (qT aims (List.zipWith (fun a b=>a*(l:Int)-b*(k:Int)) xs ys)))=decide (0<sg)):=by rw[Hid,s.out,h]
  clear h p J q Z;gi_wp2;refine qh g ?_;have h:zn w.heap.size r (r.putObj D (.deferred O)):=zn.putObj (.deferred O) om g rfl;exact⟨G (decide (0<sg)),by simp[results,results100,go_sem],by rw[j.out],h.below m.out (zh _) (zh _)⟩
 case stop=>exact fun _ _ _ _ _ _ i _=>i.elim
end

section
open Go.RowKit
theorem zqZ (K:Nat)(D:K+K<=1073741823)(w:H)(t:ET)(d:Nat)(fv:S_)(g l:L_)(x:w.cell? (Xd d 0 O)=E (sl3 fv))(hg:Zo w (sl3 fv) g)(y:Zo w t.lv l)(M:g.length=l.length)(N:g.length<=4){A B:Nat}(j:Zu A g)(C:Zu B l)(I:A<4294967296^K)(hb:B<4294967296^K)(J:4*(A*B)<4294967296^K):
 C_ 225 #[t.val,p_ d 0] w fun e w'=>∃t:WT,e=Xa t.val/\zy w' t.val (T.dotZ g l)/\b_ w w':=by
 obtain⟨⟨⟨fa,h,f⟩,⟨m,k,p,o⟩,q⟩,⟨a,c,b⟩⟩:=t;obtain⟨r,u,s⟩:=fv;simp only[ET.val,NT.fv,WT.sv,ET.lv,sl3]at *;have z:=zf (fun W (i:Ext w W)=>zkd K D W (V r u s) (V a c b) g l (hg.ext i) (y.ext i) M N j C I hb J);have j:=Xm (w.alloc (cl #[V fa h f,G m,V k p o,i_ q,V a c b] 194)) (G false) (V_) 64;have i:=zaA w (cl #[V fa h f,G m,V k p o,i_ q,V a c b] 194) (cl #[G false,V_] 64);have C:((w.alloc (cl #[V fa h f,G m,V k p o,i_ q,V a c b] 194)).alloc (cl #[G false,V_] 64)).cell? (Xd d 0 O)=E (V r u s):=(((Xe w).alloc _).alloc _).cell x;rw[zL]at j;clear hg y x;go_enter func225,ntmps225
 go_wp2_with fail
 refine(z.out _ (((Xe w).alloc _).alloc _)).mono ?_;rintro e a ⟨t,rfl,f,a⟩;obtain⟨c,d,_,_,_⟩:=j.below a;have b:=zf (f.put c d);have p:=i.trans (a.mono i.size);obtain⟨k,h,o,m⟩:=t;simp only[WT.val,WT.sv]at b⊢;clear a i j f;go_wp2;exact zH (v:=ag #[G k,V h o m]) (by simp[results,results225,go_sem,c,d]) rfl ⟨⟨k,h,o,m⟩,rfl,b.out,(p.setCell sp _).setCell sp _⟩
theorem zq0 (K:Nat)(I:K+K<=1073741823)(w:H)(t:ET)(m bk:Nat)(fv:S_)(r:Nat)(aims l:L_)(x:w.cell? (Xd m 0 O)=E (sl3 fv))(y:w.cell? (Xd bk 0 O)=E (i_ (r:Nat)))(hg:Zo w (sl3 fv) aims)(z:Zo w t.lv l)(N:aims.length=l.length)(R:l.length<=4)(S:r<=l.length){A B:Nat}(p:Zu A aims)(D:Zu B l)(J:A<4294967296^K)(hb:B<4294967296^K)(M:4*(A*B)<4294967296^K):
 C_ 176 #[t.val,p_ m 0,p_ bk 0] w fun e w'=>∃t:WT,e=Xa t.val/\zy w' t.val ((qT aims l).getD r 0)/\b_ w w':=by
 obtain⟨⟨⟨fa,f,d⟩,⟨h,g,j,i⟩,k⟩,⟨a,c,b⟩⟩:=t;obtain⟨q,u,s⟩:=fv;simp only[ET.val,NT.fv,WT.sv,ET.lv,sl3]at *;have C:=zf (fun W (o:Ext w W)=>zoV K I W (V q u s) (V a c b) aims l (hg.ext o) (z.ext o) N R r S p D J hb M);have p:=Xm (w.alloc (cl #[V fa f d,G h,V g j i,i_ k,V a c b] 194)) (G false) (V_) 64;have o:=zaA w (cl #[V fa f d,G h,V g j i,i_ k,V a c b] 194) (cl #[G false,V_] 64);have D:((w.alloc (cl #[V fa f d,G h,V g j i,i_ k,V a c b] 194)).alloc (cl #[G false,V_] 64)).cell? (Xd m 0 O)=E (V q u s):=(((Xe w).alloc _).alloc _).cell x;have m:((w.alloc (cl #[V fa f d,G h,V g j i,i_ k,V a c b] 194)).alloc (cl #[G false,V_] 64)).cell? (Xd bk 0 O)=E (i_ (r:Nat)):=(((Xe w).alloc _).alloc _).cell y;rw[zL]at p;generalize (qT aims l).getD r 0=a at *;clear hg z x y;go_enter func176,ntmps176
 go_wp2_with fail
 refine(C.out _ (((Xe w).alloc _).alloc _)).mono ?_;rintro e a ⟨t,rfl,f,a⟩;obtain⟨c,d,_,_,_⟩:=p.below a;have b:=zf (f.put c d);have k:=o.trans (a.mono o.size);obtain⟨h,g,j,i⟩:=t;simp only[WT.val,WT.sv]at b⊢;clear a o p f;go_wp2;exact zH (v:=ag #[G h,V g j i]) (by simp[results,results176,go_sem,c,d]) rfl ⟨⟨h,g,j,i⟩,rfl,b.out,(k.setCell sp _).setCell sp _⟩
theorem zl4 (c:CT)(f:Fn)(a b:W_)(w:H):
 C_ 175 #[c.val,.func f a b] w fun e w'=>e=Xa (.func (.func 231) #[] #[p_ w.heap.size 0,p_ (w.heap.size+1) 0])/\w'=(w.alloc (cl #[sl3 c.a,sl3 c.o,sl3 c.p,sl3 c.e] 114)).alloc (cl #[.func f a b] 257):=by
 obtain⟨⟨_,_,ac⟩,⟨_,_,_⟩,⟨_,_,_⟩,⟨_,_,_⟩⟩:=c;simp only[CT.val,sl3];go_enter func175,ntmps175
 have a:=jR;go_wp2;go_ret;exact⟨rfl,rfl⟩
theorem zkF (c:CT)(r:Int)(w:H):
 C_ 102 #[c.val,i_ r] w fun e w'=>e=Xa (.func (.func 231) #[] #[p_ (w.heap.size+1+1) 0,p_ (w.heap.size+1+1+1) 0])/\
  w'=(((w.alloc (cl #[sl3 c.a,sl3 c.o,sl3 c.p,sl3 c.e] 114)).alloc (cl #[i_ r] 3)).alloc (cl #[sl3 c.a,sl3 c.o,sl3 c.p,sl3 c.e] 114)).alloc (cl #[.func (.func 176) #[] #[p_ w.heap.size 0,p_ (w.heap.size+1) 0]] 257):=by
 have a:=zf (fun b W=>zl4 c (.func 176) #[] b W);obtain⟨⟨_,_,ac⟩,⟨_,_,_⟩,⟨_,_,_⟩,⟨_,_,_⟩⟩:=c;simp only[CT.val,sl3]at *;go_enter func102,ntmps102
 have b:=jR;go_wp2_with fail
 refine(a.out _ _).mono ?_;rintro e a ⟨rfl,rfl⟩;go_wp2;go_ret;exact⟨sp,rfl⟩
theorem ziL (c:CT)(r:NT)(w:H):
 C_ 166 #[c.val,r.val] w fun e w'=>e=Xa (.func (.func 231) #[] #[p_ (w.heap.size+1+1) 0,p_ (w.heap.size+1+1+1) 0])/\
  w'=(((w.alloc (cl #[sl3 c.a,sl3 c.o,sl3 c.p,sl3 c.e] 114)).alloc (cl #[r.fv,G r.t.b,r.t.sv,i_ r.num] 106)).alloc (cl #[sl3 c.a,sl3 c.o,sl3 c.p,sl3 c.e] 114)).alloc (cl #[.func (.func 225) #[] #[p_ (w.heap.size+1) 0]] 257):=by
 have a:=zf (fun b W=>zl4 c (.func 225) #[] b W);obtain⟨⟨_,_,ac⟩,⟨_,_,_⟩,⟨_,_,_⟩,⟨_,_,_⟩⟩:=c;obtain⟨⟨fa,_,_⟩,⟨_,⟨_,_,_⟩⟩,_⟩:=r;simp only[CT.val,sl3,NT.val,NT.fv,WT.sv]at *;go_enter func166,ntmps166
 have b:=jR;go_wp2_with fail
 refine(a.out _ _).mono ?_;rintro e a ⟨rfl,rfl⟩;go_wp2;go_ret;exact⟨sp,rfl⟩
attribute [local go_sem] zD zW qJ
section

variable {F:Fence} {n:Nat} {P:Program} {ops:Array Oper} {Q:Exit->Act->World->Prop} {L:Nat}
theorem ziM {a:Act}{w:H}{o:Oper}(hs:ops.size=L+1+1:=by rfl)(ho:ops.toList[L]? =E o:=by rfl)(hg:Region.wanted o (yielded ops a.tmps)=true:=by rfl)(h:o.wpIn F n P a w (fun a w=>wpOpIn F n P ops Q (L+1) (fun a w=>Q .normal a w) a w) Q):zdL F n P ops Q L .normal a w:=by
 show wpOpsIn F n P ops Q (List.range' L (ops.size-L)) a w
 have e:List.range' L (ops.size-L)= [L,L+1]:=by
  rw[hs,show L+1+1-L=2 by omega];rfl
 rw[e,wpOpsIn_cons];unfold wpOpIn;rw[<-jz,ho];simp only;rw[zQ hg];refine Oper.wpIn_mono (fun a w h=>?_) h;rw[wpOpsIn_cons];exact h
theorem zds {i:Nat}{a:Act}{w:H}{o:Oper}{K:Act->H->Prop}(ho:ops.toList[i]? =E o:=by rfl)(hg:Region.wanted o (yielded ops a.tmps)=true:=by rfl)(h:o.wpIn F n P a w K Q):wpOpIn F n P ops Q i K a w:=by
 unfold wpOpIn;rw[<-jz,ho];simp only;rw[zQ hg];exact h
end
def WithY (ts:List ET)(q:Nat->Int)(k:Nat)(v:W_)(W:H):Prop:=∃(t:ET) (u:WT),ts[k]? =E t/\v=#[t.val,u.val]/\zy W u.val (q k)
def ze8 (g1 g2 l:Nat)(ev:Value)(J:Nat->(Nat->Prop)->H->Prop)(k:Nat)(M:Nat->Prop)(A:H):Prop:=
 J k M A/\A.cell? (Xd g1 0 O)=E (.func (.yield l) #[] #[])/\A.cell? (Xd g2 0 O)=E ev/\¬M g1/\¬M g2
theorem with_seq (x:FuncId)(d:∀v W,Sem.run pg (callFunc x v) W= .ok (.enter x v) W)(c:CT)(ts:List ET)(a bf:Nat)(cs:W_)(q:Nat->Int)(b:H->Prop)(g:∀(N:Nat) (A B:H),b A->zn N A B->b B)(f:ts.length<=1000)
 (r:∀(W:H) (k:Nat) (t:ET),ts[k]? =E t->b W->C_ x (#[t.val]++cs) W fun e w'=>∃u:WT,e=Xa u.val/\zy w' u.val (q k)/\b_ W w'):
 Ja pg 231 #[p_ a 0,p_ bf 0] ts.length (WithY ts q)
  (fun W=>(W.cell? (Xd a 0 O)=E (sl3 c.a)/\W.cell? (Xd a 1 O)=E (sl3 c.o)/\W.cell? (Xd a 2 O)=E (sl3 c.p)/\W.cell? (Xd a 3 O)=E (sl3 c.e))/\W.cell? (Xd bf 0 O)=E (.func (.func x) #[] cs)/\T.Recs W (sl3 c.e) 5 (ts.map ET.cells)/\b W):=by
 intro m a0 Jx b W y a4 hC l h0;obtain⟨⟨o,_,_,_⟩,_,s,-⟩:=(hC 0 b W h0).1;obtain⟨⟨d,h,ac⟩,⟨w,C,z⟩,⟨D,J,I⟩,⟨i,_,j⟩⟩:=c;simp only[sl3]at *;obtain⟨_,_,f⟩:=s.shape;rw[zm,qp]at f;obtain⟨rfl,rfl,rfl⟩:=f;have f:=zf hC;have R:=zf l;have K:=zf r;have l:a<W.heap.size:=zw o;refine Q0 func231 ntmps231 (h:=?_);gi_wp2;refine(zq.2 (zgM ⟨(d,h,ac),(w,C,z),(D,J,I),(i,ts.length,j)⟩ _)).mono ?_;rintro e a ⟨rfl,rfl⟩;simp only[sl3,zL];gi_wp2;refine ZT (zcs ts i j (W.heap.size+1+1) om) rfl (qW func255 kr rfl) (fun k v W=>by rintro⟨t,_,rfl⟩;rfl)
  (ze8 W.heap.size (W.heap.size+1+1) m (V i ts.length j) a0) (fun c k A=>c= .ret/\Jx k A) b ?hI ?hIx ?hC ?h0 ?round ?done ?stop
 case hI=>
  rintro k M A B ⟨a,l,o,r,s⟩ g;exact⟨y _ _ _ _ a (g.mono so),g.cell l,g.cell o,r,s⟩
 case hIx=>
  rintro c k A B ⟨a,l⟩ g;exact⟨a,a4 _ _ _ l (g.mono so)⟩
 case hC=>
  rintro k M A ⟨a,l,o,r,s⟩;exact⟨⟨o,(f.out k M A a).1.2.2.1⟩,(f.out k M A a).2⟩
 case h0=>
  refine⟨y _ _ _ _ h0 (((zn.alloc _ _ _).trans (zn.alloc _ _ _)).trans (zn.alloc _ _ _)),?_,?_,?_,?_⟩;·exact(((ZU W 314 (.func (.yield m) #[] #[])).alloc _).alloc _).cell
  ·have:=(ZU ((W.alloc (cl #[.func (.yield m) #[] #[]] 314)).alloc (cl #[V d h ac,V w C z,V D J I,V i ts.length j] 114)) 112 (V i ts.length j)).cell;simpa using this
  ·intro h;have:=(f.out 0 b W h0).2 _ h;omega
  ·intro h;have:=(f.out 0 b W h0).2 _ h;omega
 case round=>
  rintro b k v M A C ⟨d,w,rfl⟩ ⟨a,l,o,r,s⟩;have a3:=zf (fun(u:WT) (b:H) (z:zy b u.val (q k)) hj=>R.out k #[d.val,u.val] M b C ⟨d,u,w,rfl,z⟩ hj);have a1:=zf (fun W=>K.out W k d w);obtain⟨⟨⟨fa,D,C⟩,⟨U,R,Y,X⟩,Z⟩,⟨I,K,J⟩⟩:=d;simp only[ET.val,NT.fv,WT.sv,ET.lv]at a3 a1⊢;unfold Zz;gi_wp2;refine⟨Xg ((Xe A).alloc _),fun d a2=>?_⟩;have w:=(zn.alloc _ A (cl #[V fa D C,G U,V R Y X,i_ Z,V I K J] 194)).trans a2;have xA:zn W.heap.size A d:=w.mono so;have g0:=w.cell l;have g1:=w.cell ((f.out k M A a).1.2.1);have g3:=w.cell o;have e0:=a2.block _ _ (zC A (cl #[V fa D C,G U,V R Y X,i_ Z,V I K J] 194)) (.inr rfl);have a7:=y _ _ _ _ a (xA.trans (zn.drew _ _));have w:=xA.size;have a5:=zf (g _ _ _ (f.out k M A a).1.2.2.2 (xA.trans (zn.drew W.heap.size _)));have a2:=zf (fun f (hW:Ext d f)=>
   have w:=(hW.block _ (zd.1 e0).1).trans e0;Xc (hW.cell g0) (Xc (hW.cell g1) (Xc (c_ 0 w) (Xc (c_ 1 w) (Xc (c_ 2 w) (Xc (c_ 3 w) (c_ 4 w)))))))
  have a6:Hid (∀(u:WT) (b:H),zy b u.val (q k)->Ext d.drew b->YieldAt Fence.wide 0 pg m #[ag #[V fa D C,G U,V R Y X,i_ Z,V I K J],u.val] b fun e w=>
   (e=Xa (G true)/\Hid (ZL M (ze8 W.heap.size (W.heap.size+1+1) m (V i ts.length j) a0) (fun c k A=>c= .ret/\Jx k A) k A d .normal { tmps:=#[],defers:= [] } w))\/(e=Xa (G false)/\Hid (ZL M (ze8 W.heap.size (W.heap.size+1+1) m (V i ts.length j) a0) (fun c k A=>c= .ret/\Jx k A) k A d .ret { tmps:=#[],defers:= [] } w))):=by
   intro u b z i;have xB:=ZG i;have j:=xB.size;have j:=zw g0;have a0:=zw g3;simp only at j a0;refine zcD (a3.out u b z (y _ _ _ _ a7 (zn.of_below i))) ?_;rintro e w (⟨rfl,i,M',a0,j⟩|⟨rfl,i,hx⟩)
   ·refine .inl ⟨rfl,(Xg xB).trans i,M',⟨a0,i.cell (p:=(y_ W 0)) r (xB.cell g0),i.cell (p:=(w_ W 0)) s (xB.cell g3),fun h=>?_,fun h=>?_⟩,fun a0 hy=>?_⟩
    ·rcases j _ h with h|h
     ·exact r h
     ·omega
    ·rcases j _ h with h|h
     ·exact s h
     ·omega
    ·rcases j a0 hy with h|h
     ·exact .inl h
     ·exact .inr om
   ·exact .inr ⟨rfl,(Xg xB).trans i,rfl,hx⟩
  refine ZW (zcE ?_);refine zdM 5 (S:=fun f=>f.cell? (y_ W 0)=E (.func (.yield m) #[] #[])/\f.cell? (Xd bf 0 O)=E (.func (.func x) #[] cs)/\f.cell? (y_ A 0)=E (V fa D C)/\f.cell? (y_ A 1)=E (G U)/\f.cell? (y_ A 2)=E (V R Y X)/\f.cell? (y_ A 3)=E (i_ Z)/\f.cell? (y_ A 4)=E (V I K J)) hm (by rfl) (fun⟨_,_,h⟩=>h) (a2.out d (Xe _)) (h:=fun h=>?_);refine tkl [0,1,2,3] ?_;refine rcl 4 (a1.out _ a5.out) ?_;rintro e b ⟨⟨j,i,x,m⟩,rfl,z,f⟩;have xB:=ZG f;have d:=zf (a6.out ⟨j,i,x,m⟩ b z f);simp only[WT.val,WT.sv]at d⊢;refine bk (a2.out _ xB) fun h=>?_
  refine zV kr ?_ _;refine ziM (h:=?_);go_simp;refine JS d.out ?_ ?_
  ·intro w b;refine zds (h:=?_);go_simp;gi_wp2;exact b.out
  ·intro w b;refine zds (h:=?_);go_simp;gi_wp2;exact b.out
 case done=>
  rintro D M A d ⟨a,l,o,r,s⟩ b;gi_wp2;refine qh b ?_;exact⟨_,qI rfl _ _ _,⟨_,rfl⟩,.inl ⟨M,y _ _ _ _ a (zn.putObj _ (by simp at d;omega) b rfl)⟩⟩
 case stop=>
  rintro D c k A d g ⟨rfl,a⟩ b;gi_wp2;refine qh b ?_;exact⟨_,qI rfl _ _ _,⟨_,rfl⟩,.inr ⟨k,g,a4 _ _ _ a (zn.putObj _ (by simp at d;omega) b rfl)⟩⟩
end

section
open Go.RowKit
variable {A w w' w1:H}{B D K b n over:Nat}{U:Nat->Prop}{a:List ET}{aims g:L_}{c:CT}{e:Edg}{es:List Edg}{k:Cor}{ot:ET}{pt:WT}{t:NT}{v:Value}
structure jN (D K:Nat):Prop where
 k:K+K<=1073741800
 d:1<=D
 five:256*(D*(D*(D*(D*D))))<4294967296^K
def gB (D:Nat):Nat:=5*(D*D)
def xB (D:Nat):Nat:=gB D*gB D+gB D*gB D
theorem xB_eq(D:Nat):xB D=50*(D*(D*(D*D))):=by
 unfold xB gB;rw[Nat.mul_mul_mul_comm 5 (D*D) 5 (D*D),Zt D D (D*D)];omega
theorem jN.up(h:jN D K):D<=D*D/\D*D<=D*(D*D)/\D*(D*D)<=D*(D*(D*D))/\D*(D*(D*D))<=D*(D*(D*(D*D))):=by
 have:=h.d;exact⟨Jd _ this,Jd _ this,Jd _ this,Jd _ this⟩
theorem jN.one(h:jN D K):D<4294967296^K:=by have:=h.up;have:=h.five;omega
theorem jN.two(h:jN D K):4*(D*D)<4294967296^K:=by have:=h.up;have:=h.five;omega
theorem jN.gain(h:jN D K):gB D<4294967296^K:=by unfold gB;have:=h.up;have:=h.five;omega
theorem jN.cross(h:jN D K):xB D<4294967296^K:=by rw[xB_eq];have:=h.up;have:=h.five;omega
theorem jN.rank(h:jN D K):4*(D*xB D)<4294967296^K:=by
 rw[xB_eq,jq D 50];have:=h.five;omega
theorem jN.le_gain(h:jN D K):D<=gB D:=by unfold gB;have:=h.up;omega
theorem Zu.mono{A:Nat}{l:L_}(h:Zu A l)(hb:A<=B):Zu B l:=fun z a=>(h z a).mono hb
theorem zgn{a:Nat}{v:Int}(ho:1<=over)(h:Lim a v):Lim a (v/(over:Int)):=by
 unfold Lim at *;have b:(0:Int)<(over:Int):=om;constructor
 ·refine(zbj b).2 (Int.le_trans ?_ h.1);have:-(a:Int)*(over:Int)=-((a:Int)*(over:Int)):=by rw[Int.neg_mul]
  rw[this];have c:(a:Int)*1<=(a:Int)*(over:Int):=ZI om om;omega
 ·refine Int.ediv_le_of_le_mul b (Int.le_trans h.2 ?_);have c:(a:Int)*1<=(a:Int)*(over:Int):=ZI om om;omega
theorem zoY{A:Nat}{xs ys:L_}{t u:Int}(ho:1<=over)(e:Zu A xs)(f:Zu A ys)(c:Lim A t)(d:Lim A u):Zu (A*A+A*A) (ZJ over xs t ys u):=by
 intro z a;unfold ZJ at a;obtain⟨_,b,rfl⟩:=qM a;rw[zbX];rw[jY]at b;exact zgn ho (((e _ (zJ om)).mul c).add ((f _ (zJ om)).mul d))
theorem zhF{xs ys:L_}{t u:Int}(h:xs.length=ys.length):(ZJ over xs t ys u).length=xs.length:=by
 unfold ZJ;rw[jY,h,zbG]
structure Fit (D n:Nat)(aims:L_)(k:Cor):Prop where
 n4:n<=4
 aim:aims.length=n
 aimD:Zu D aims
 plen:k.point.length=n
 pointD:Zu D k.point
 pos:k.over≠0
 overD:k.over<=D
 elen:k.edges.length=n
 edge:∀e∈k.edges,(e.row.1.length=n/\e.loss.length=n)/\Jm D e.row/\Zu D e.loss
theorem Fit.dot(h:Fit D n aims k)(b:g.length=n)(hg:Zu D g)(a:e∈k.edges):Lim (gB D) (T.dotZ g e.loss):=
 (zcC hg (h.edge e a).2.2).mono (zZ _ (by have:=h.n4;omega))
def zaP (w:H)(t:NT)(r:qO):Prop:=Zo w t.fv r.1.1/\zy w t.t.val r.1.2/\t.num=(r.2:Int)
theorem zaP.wr{r:qO}(h:zaP w t r)(b:Wr U w w')(a:∀k,U k->¬qQ w k 64/\qK w k):zaP w' t r:=⟨h.1.wr b a,h.2.1.wr b (fun k b=>(a k b).2),h.2.2⟩
theorem zaP.ext{r:qO}(h:zaP w t r)(a:Ext w w'):zaP w' t r:=⟨h.1.ext a,h.2.1.below a,h.2.2⟩
theorem zaP.keep{r:qO}(h:zaP w t r)(a:zn B w w'):zaP w' t r:=⟨h.1.keep a,h.2.1.keep a,h.2.2⟩
def zbY (w:H)(t:ET)(e:Edg):Prop:=zaP w t.n (e.row,e.num)/\Zo w t.lv e.loss
theorem zbY.wr{t:ET}(h:zbY w t e)(b:Wr U w w')(a:∀k,U k->¬qQ w k 64/\qK w k):zbY w' t e:=⟨h.1.wr b a,h.2.wr b a⟩
theorem zbY.ext{t:ET}(h:zbY w t e)(a:Ext w w'):zbY w' t e:=⟨h.1.ext a,h.2.ext a⟩
theorem zbY.keep{t:ET}(h:zbY w t e)(a:zn B w w'):zbY w' t e:=⟨h.1.keep a,h.2.keep a⟩
structure JF (w:H)(aims:L_)(c:CT)(k:Cor)(ets:List ET):Prop where
 aim:Zo w (sl3 c.a) aims
 over:NatV w (sl3 c.o) k.over
 point:Zo w (sl3 c.p) k.point
 len:ets.length=k.edges.length
 list:ZS w 194 (sl3 c.e) 5 (ets.map ET.cells)
 edge:∀(i:Nat) (t:ET) (e:Edg),ets[i]? =E t->k.edges[i]? =E e->zbY w t e
theorem JF.keep{b:List ET}(h:JF w aims c k b)(a:zn B w w'):JF w' aims c k b:=
 ⟨h.aim.keep a,h.over.keep a,h.point.keep a,h.len,h.list.keep a,fun i t e d b=>(h.edge i t e d b).keep a⟩
theorem JF.ext(h:JF w aims c k a)(b:Ext w w'):JF w' aims c k a:=h.keep (B:=0) (zn.of_below b)
theorem JF.wr{k:Cor}(h:JF w aims c k a)(d:Wr U w w')(b:∀k,U k->(¬qQ w k 64/\qK w k)/\¬qQ w k 194):JF w' aims c k a:=
 ⟨h.aim.wr d (fun k a=>(b k a).1),h.over.wr d (fun k a=>(b k a).1.2),h.point.wr d (fun k a=>(b k a).1),h.len,h.list.wr d (fun k a=>(b k a).2),fun i t e g f=>(h.edge i t e g f).wr d (fun k a=>(b k a).1)⟩
def gainQ (g:L_)(es:List Edg)(k:Nat):Int:=T.dotZ g ((es[k]?.map Edg.loss).getD [])
def lossQ (aims:L_)(r:Nat)(es:List Edg)(k:Nat):Int:=(qT aims ((es[k]?.map Edg.loss).getD [])).getD r 0
theorem zgN{k:Nat}(h:es[k]? =E e):gainQ g es k=T.dotZ g e.loss:=by unfold gainQ;rw[h];rfl
theorem ziN{r:Nat}{k:Nat}(h:es[k]? =E e):lossQ aims r es k=(qT aims e.loss).getD r 0:=by unfold lossQ;rw[h];rfl
def WithC (c:CT)(ts:List ET)(bc bf:Nat)(fv:Value)(W:H):Prop:=
 (W.cell? (Xd bc 0 O)=E (sl3 c.a)/\W.cell? (Xd bc 1 O)=E (sl3 c.o)/\W.cell? (Xd bc 2 O)=E (sl3 c.p)/\W.cell? (Xd bc 3 O)=E (sl3 c.e))/\W.cell? (Xd bf 0 O)=E fv/\T.Recs W (sl3 c.e) 5 (ts.map ET.cells)
def GainC (c:CT)(ts:List ET)(es:List Edg)(g:L_)(rf:Value)(b:Nat)(W:H):Prop:=
 WithC c ts (b+1+1) (b+1+1+1) (.func (.func 225) #[] #[p_ (b+1) 0]) W/\W.cell? ⟨b+1,0,O⟩=E rf/\Zo W rf g/\∀(i:Nat) (t:ET) (e:Edg),ts[i]? =E t->es[i]? =E e->Zo W t.lv e.loss
def LossC (c:CT)(ts:List ET)(es:List Edg)(aims:L_)(r:Nat)(b:Nat)(W:H):Prop:=
 WithC c ts (b+1+1) (b+1+1+1) (.func (.func 176) #[] #[p_ b 0,p_ (b+1) 0]) W/\W.cell? (Xd b 0 O)=E (sl3 c.a)/\W.cell? ⟨b+1,0,O⟩=E (i_ (r:Nat))/\Zo W (sl3 c.a) aims/\∀(i:Nat) (t:ET) (e:Edg),ts[i]? =E t->es[i]? =E e->Zo W t.lv e.loss
theorem zhG(l:jN D K)(j:Fit D n aims k)(c:CT)(ts:List ET)(d:ts.length=k.edges.length)(g:L_)(q:g.length=n)(r:Zu D g)(a:Value)(b:Nat):
 Ja pg 231 #[p_ (b+1+1) 0,p_ (b+1+1+1) 0] ts.length (WithY ts (gainQ g k.edges)) (GainC c ts k.edges g a b):=by
 refine Ja.weaken (with_seq 225 (fun _ _=>kr) c ts (b+1+1) (b+1+1+1) #[p_ (b+1) 0] (gainQ g k.edges)
  (fun W=>∃f:S_,W.cell? ⟨b+1,0,O⟩=E (sl3 f)/\Zo W (sl3 f) g/\∀(i:Nat) (t:ET) (h:Edg),ts[i]? =E t->k.edges[i]? =E h->Zo W t.lv h.loss) ?_ (by have:=j.elen;have:=j.n4;omega) ?_) ?_
 ·rintro N A B ⟨f,a,d,e⟩ p;exact⟨f,p.cell a,d.keep p,fun i t h o m=>(e i t h o m).keep p⟩
 ·rintro W i t o ⟨f,a,d,e⟩;have h:i<k.edges.length:=by have:=jQ o;omega
  have m:=zg h;have hm:=j.edge _ (zJ h);rw[zgN m];exact zqZ K (by have:=l.k;omega) W t (b+1) f g _ a d (e i t _ o m) (by rw[q,hm.1.2]) (by rw[q];exact j.n4) r hm.2.2 l.one l.one l.two
 ·rintro W ⟨⟨a,d,e⟩,f,h,i⟩;refine⟨a,d,e,?_⟩;obtain⟨m,j,a,l⟩:=h;obtain⟨d,e,rfl⟩:=a.shape;exact⟨(d,_,e),f,⟨m,j,a,l⟩,i⟩
theorem zju(h:jN D K)(a:Fit D n aims k)(c:CT)(ts:List ET)(d:ts.length=k.edges.length)(r:Nat)(p:r<=n)(b:Nat):
 Ja pg 231 #[p_ (b+1+1) 0,p_ (b+1+1+1) 0] ts.length (WithY ts (lossQ aims r k.edges)) (LossC c ts k.edges aims r b):=by
 refine Ja.weaken (with_seq 176 (fun _ _=>kr) c ts (b+1+1) (b+1+1+1) #[p_ b 0,p_ (b+1) 0] (lossQ aims r k.edges)
  (fun W=>W.cell? (Xd b 0 O)=E (sl3 c.a)/\W.cell? ⟨b+1,0,O⟩=E (i_ (r:Nat))/\Zo W (sl3 c.a) aims/\∀(i:Nat) (t:ET) (g:Edg),ts[i]? =E t->k.edges[i]? =E g->Zo W t.lv g.loss) ?_ (by have:=a.elen;have:=a.n4;omega) ?_) ?_
 ·rintro N A B ⟨o,d,e,f⟩ l;exact⟨l.cell o,l.cell d,e.keep l,fun i t g m j=>(f i t g m j).keep l⟩
 ·rintro W i t m ⟨o,d,e,f⟩;have g:i<k.edges.length:=by have:=jQ m;omega
  have j:=zg g;have hm:=a.edge _ (zJ g);rw[ziN j];exact zq0 K (by have:=h.k;omega) W t b (b+1) c.a r aims _ o d e (f i t _ m j) (by rw[a.aim,hm.1.2]) (by rw[hm.1.2];exact a.n4) (by rw[hm.1.2];exact p) a.aimD hm.2.2 h.one h.one h.two
 ·rintro W ⟨⟨d,e,f⟩,a,g,h,i⟩;exact⟨d,e,f,a,g,h,i⟩
theorem qk(a:Ext w w1)(h:Wr U w1 A)(c:∀b,U b->w.heap.size<=b):Ext w A:=Qg a (h.below a.size c)
theorem ziO{w0:H}{r:NT}(i:JF w aims c k a)(hg:Zo w r.fv g)(f:Ext w A)(e:w1=(((w0.alloc (cl #[sl3 c.a,sl3 c.o,sl3 c.p,sl3 c.e] 114)).alloc (cl #[r.fv,G r.t.b,r.t.sv,i_ r.num] 106)).alloc (cl #[sl3 c.a,sl3 c.o,sl3 c.p,sl3 c.e] 114)).alloc (cl #[.func (.func 225) #[] #[p_ (w0.heap.size+1) 0]] 257))(h:Wr U w1 A)(d:∀b,U b->b<w0.heap.size):GainC c a k.edges g r.fv w0.heap.size A:=by
 obtain⟨_,a,j,l,-⟩:=zem w0 (cl #[sl3 c.a,sl3 c.o,sl3 c.p,sl3 c.e] 114) (cl #[r.fv,G r.t.b,r.t.sv,i_ r.num] 106) (cl #[sl3 c.a,sl3 c.o,sl3 c.p,sl3 c.e] 114) (cl #[.func (.func 225) #[] #[p_ (w0.heap.size+1) 0]] 257);rw[<-e]at a j l;have m:=h.some a (fun e=>by have:=d _ e;omega);have a:=h.some j (fun e=>by have:=d _ e;omega);have j:=h.some l (fun e=>by have:=d _ e;omega);exact⟨⟨⟨c_ 0 a,c_ 1 a,c_ 2 a,c_ 3 a⟩,c_ 0 j,(i.list.ext f).recs⟩,c_ 0 m,hg.ext f,fun j t e d a=>((i.edge j t e d a).ext f).2⟩
theorem zkG{w0:H}{d:List ET}{r:Nat}(f:JF w aims c k d)(g:Ext w A)(e:w1=(((w0.alloc (cl #[sl3 c.a,sl3 c.o,sl3 c.p,sl3 c.e] 114)).alloc (cl #[i_ (r:Nat)] 3)).alloc (cl #[sl3 c.a,sl3 c.o,sl3 c.p,sl3 c.e] 114)).alloc (cl #[.func (.func 176) #[] #[p_ w0.heap.size 0,p_ (w0.heap.size+1) 0]] 257))(h:Wr U w1 A)(a:∀b,U b->b<w0.heap.size):LossC c d k.edges aims r w0.heap.size A:=by
 obtain⟨d,i,j,l,-⟩:=zem w0 (cl #[sl3 c.a,sl3 c.o,sl3 c.p,sl3 c.e] 114) (cl #[i_ (r:Nat)] 3) (cl #[sl3 c.a,sl3 c.o,sl3 c.p,sl3 c.e] 114) (cl #[.func (.func 176) #[] #[p_ w0.heap.size 0,p_ (w0.heap.size+1) 0]] 257);rw[<-e]at d i j l;have m:=h.some d (fun e=>by have:=a _ e;omega);have o:=h.some i (fun e=>by have:=a _ e;omega);have d:=h.some j (fun e=>by have:=a _ e;omega);have i:=h.some l (fun e=>by have:=a _ e;omega);exact⟨⟨⟨c_ 0 d,c_ 1 d,c_ 2 d,c_ 3 d⟩,c_ 0 i,(f.list.ext g).recs⟩,c_ 0 m,c_ 0 o,f.aim.ext g,fun i t e d a=>((f.edge i t e d a).ext g).2⟩
attribute [local go_sem] zD zW qJ
theorem zca(aims:L_)(over:Nat)(g:L_)(a:List Edg):∀(es:List Edg) (b:Option (Edg×Int)),Q5 aims over g (es++a) b=Q5 aims over g a (Q5 aims over g es b)
 |[],_=>rfl
 |e::es,b=>by
  rw[ZZ,zcf,zcf];split
  ·exact zca aims over g a es b
  ·cases b with
   |none=>exact zca aims over g a es _
   |some x=>
    obtain⟨o,pv⟩:=x;simp only;split
    ·exact zca aims over g a es _
    ·exact zca aims over g a es _
def LvR (W:H)(ets:List ET)(es:List Edg)(g:L_)(res:Option (Edg×Int))(ot:ET)(pt:WT)(fo:Bool):Prop:=
 match res with
 |none=>fo=false
 |some (o,pz)=>fo=true/\(∃i:Nat,es[i]? =E o/\ets[i]? =E ot)/\pz=T.dotZ g o.loss/\zy W pt.val pz
def LvB (b:Nat)(x:Nat):Prop:=x=b\/x=b+1\/x=b+1+1
def LvI (w1:H)(b:Nat)(ets:List ET)(es:List Edg)(aims:L_)(over:Nat)(g:L_)(k:Nat)(M:Nat->Prop)(A:H):Prop:=
 Wr (LvB b) w1 A/\k<=es.length/\(∀x,M x↔LvB b x)/\∃(ot:ET) (pt:WT) (fo:Bool),A.heap[b]? =E (cl #[ot.n.fv,G ot.n.t.b,ot.n.t.sv,i_ ot.n.num,ot.lv] 194)/\A.heap[b+1]? =E (cl #[G pt.b,pt.sv] 64)/\A.heap[b+1+1]? =E (cl #[G fo] 4)/\LvR A ets es g (Q5 aims over g (es.take k) O) ot pt fo
theorem LvR.keep{W b:H}{c:List ET}{a:Option (Edg×Int)}{d:Bool}(h:LvR W c es g a ot pt d)(e:zn B W b):LvR b c es g a ot pt d:=by
 cases a with
 |none=>exact h
 |some x=>exact⟨h.1,h.2.1,h.2.2.1,h.2.2.2.keep e⟩
theorem LvI.keep{B:H}{c:List ET}{k:Nat}{M:Nat->Prop}(h:LvI w1 b c es aims over g k M A)(a:zn w1.heap.size A B):LvI w1 b c es aims over g k M B:=by
 obtain⟨d,e,f,o,p,c,i,j,l,m⟩:=h;exact⟨d.keep a,e,f,o,p,c,a.block _ _ i (.inr rfl),a.block _ _ j (.inr rfl),a.block _ _ l (.inr rfl),m.keep a⟩
def zeA (A:H)(b:Nat)(ot:ET)(pt:WT)(fo:Bool):H:=
 ((((((((A.setCell (Xd b 0 O) ot.n.fv).setCell (Xd b 1 O) (G ot.n.t.b)).setCell (Xd b 2 O) ot.n.t.sv).setCell (Xd b 3 O) (i_ ot.n.num)).setCell (Xd b 4 O) ot.lv)).setCell ⟨b+1,0,O⟩ (G pt.b)).setCell ⟨b+1,1,O⟩ pt.sv).setCell ⟨b+1+1,0,O⟩ (G fo)
theorem qG{g i:Nat}{cs:W_}{t:TypeId}(h:w.heap[g]? =E (cl cs t)):(w.setCell (Xd g i O) v).heap[g]? =E (cl (cs.setIfInBounds i v) t):=Xl h
theorem set_other{g k i:Nat}{o:Obj}(h:w.heap[k]? =E o)(a:k≠g):(w.setCell (Xd g i O) v).heap[k]? =E o:=(zv (U:=fun b=>b=g) rfl v).some h a
theorem zgO(A:H)(b:Nat)(ot:ET)(pt:WT)(a:Bool):Wr (LvB b) A (zeA A b ot pt a):=by
 unfold zeA;refine(((((((((Xj _ _).trans (zv ?_ _)).trans (zv ?_ _)).trans (zv ?_ _)).trans (zv ?_ _)).trans (zv ?_ _)).trans (zv ?_ _)).trans (zv ?_ _)).trans (zv ?_ _));all_goals first|exact .inl rfl|exact .inr (.inl rfl)|exact .inr (.inr rfl)
theorem zim{ot':ET}{pt':WT}{a fo':Bool}(c:A.heap[b]? =E (cl #[ot'.n.fv,G ot'.n.t.b,ot'.n.t.sv,i_ ot'.n.num,ot'.lv] 194))(d:A.heap[b+1]? =E (cl #[G pt'.b,pt'.sv] 64))(e:A.heap[b+1+1]? =E (cl #[G a] 4)):
 (zeA A b ot pt fo').heap[b]? =E (cl #[ot.n.fv,G ot.n.t.b,ot.n.t.sv,i_ ot.n.num,ot.lv] 194)/\(zeA A b ot pt fo').heap[b+1]? =E (cl #[G pt.b,pt.sv] 64)/\(zeA A b ot pt fo').heap[b+1+1]? =E (cl #[G fo'] 4):=by
 unfold zeA;have a:=qG (i:=4) (v:=ot.lv) (qG (i:=3) (v:=i_ ot.n.num) (qG (i:=2) (v:=ot.n.t.sv) (qG (i:=1) (v:=G ot.n.t.b) (qG (i:=0) (v:=ot.n.fv) c))));have c:=qG (i:=1) (v:=pt.sv) (qG (i:=0) (v:=G pt.b) (set_other (g:=b) (i:=4) (v:=ot.lv) (set_other (g:=b) (i:=3) (v:=i_ ot.n.num) (set_other (g:=b) (i:=2) (v:=ot.n.t.sv) (set_other (g:=b) (i:=1) (v:=G ot.n.t.b) (set_other (g:=b) (i:=0) (v:=ot.n.fv) d om) om) om) om) om));have d:=qG (i:=0) (v:=G fo') (set_other (g:=b+1) (i:=1) (v:=pt.sv) (set_other (g:=b+1) (i:=0) (v:=G pt.b) (set_other (g:=b) (i:=4) (v:=ot.lv) (set_other (g:=b) (i:=3) (v:=i_ ot.n.num) (set_other (g:=b) (i:=2) (v:=ot.n.t.sv) (set_other (g:=b) (i:=1) (v:=G ot.n.t.b) (set_other (g:=b) (i:=0) (v:=ot.n.fv) e om) om) om) om) om) om) om);refine⟨?_,?_,d⟩;·exact set_other (set_other (set_other a om) om) om
 ·exact set_other c om
theorem LvR.wr{W c:H}{d:List ET}{a:Option (Edg×Int)}{e:Bool}(h:LvR W d es g a ot pt e)(i:Wr U W c)(f:∀b,U b->qK W b):LvR c d es g a ot pt e:=by
 cases a with
 |none=>exact h
 |some x=>exact⟨h.1,h.2.1,h.2.2.1,h.2.2.2.wr i f⟩
theorem zoZ{a:Bool}(c:A.heap[b]? =E (cl #[ot.n.fv,G ot.n.t.b,ot.n.t.sv,i_ ot.n.num,ot.lv] 194))(d:A.heap[b+1]? =E (cl #[G pt.b,pt.sv] 64))(f:A.heap[b+1+1]? =E (cl #[G a] 4)):∀x,LvB b x->qK A x:=by
 rintro x (rfl|rfl|rfl);·exact zE c (by intro u a;simp at a;rcases a with rfl|rfl|rfl|rfl|rfl<;>(intro n e;cases e))
 ·exact zE d (by intro u a;simp at a;rcases a with rfl|rfl<;>(intro n e;cases e))
 ·exact zE f n1
theorem zmK(hc:jN D K)(w:H)(c:CT)(r:NT)(aims:L_)(k:Cor)(ab:List ET)(hM:JF w aims c k ab)(a2:Fit D n aims k)(g:L_)(hg:Zo w r.fv g)(aM:g.length=n)(aK:Zu D g):
 C_ 165 #[c.val,r.val] w fun e w'=>(∃(ot:ET) (pt:WT) (fo:Bool),e=Xa (tp #[ot.val,pt.val,G fo])/\LvR w' ab k.edges g (Q5 aims k.over g k.edges O) ot pt fo)/\b_ w w':=by
 have bo:=hM.len;have b5:=zf hM;have bz:=zf hg;have aB:=zf (fun(w0 w1 A:H) (bF:Nat->Prop) h ao z hU=>ziO (w0:=w0) (w1:=w1) (A:=A) (U:=bF) hM hg h ao z hU);have aC:=zf (fun w0=>ziL c r w0);have aD:=zf (fun b=>zhG hc a2 c ab bo g aM aK r.fv b);have b0:=zf (fun(W:H) (h:Ext w W) (xv yv:Value) (xs ys:L_) (bQ:Zo W xv xs) (bS:Zo W yv ys) (f:xs.length=ys.length) (hn:xs.length<=4) (aX a7:WT) (zt zu:Int) (ht:zy W aX.val zt) (hu:zy W a7.val zu) (bv:Zu (gB D) xs) (bR:Zu (gB D) ys) (bO:Lim (gB D) zt) (bP:Lim (gB D) zu)=>
  zf9 K (by have:=hc.k;omega) W c k.over ((hM.ext h).over) a2.pos xv yv xs ys bQ bS f hn aX a7 zt zu ht hu bv bR bO bP hc.gain hc.cross (qu a2.overD hc.one))
 have b7:=zf (fun(W:H) (h:Ext w W) (a7:Value) (pt:L_) (hu:Zo W a7 pt) (f:pt.length=n) (hp:Zu (xB D) pt)=>
  zhD K (by have:=hc.k;omega) W (sl3 c.a) a7 aims pt (hM.ext h).aim hu (by rw[a2.aim,f]) (by rw[f];exact a2.n4) a2.aimD hp hc.one hc.cross hc.rank)
 obtain⟨⟨aa,al,ac⟩,⟨oa,ol,oc⟩,⟨pa,pl,pc⟩,⟨ba,el,ec⟩⟩:=c;obtain⟨⟨fa,fl,fc⟩,⟨tb,⟨ta,tl,tc⟩⟩,nn⟩:=r;simp only[CT.val,NT.val,sl3,NT.fv,WT.sv]at aB aC aD b0 b7⊢;obtain⟨n0,bT,n2,aW,ay,hX⟩:=ziI w (cl #[V aa al ac,V oa ol oc,V pa pl pc,V ba el ec] 114) (cl #[V fa fl fc,G tb,V ta tl tc,i_ nn] 106) (cl #[V_,G false,V_,i_ 0,V_] 194) (cl #[G false,V_] 64) (cl #[G false] 4);clear hM hg;refine Q0 func165 ntmps165 (h:=?_);gi_wp2;generalize World.alloc _ _=w0 at *;refine(zq.2 (aC.out w0)).mono ?_;rintro e w1 ⟨rfl,ao⟩;have x1:Ext w0 w1:=by rw[ao];exact((((Xe w0).alloc _).alloc _).alloc _).alloc _
 have aA:=hX.trans x1;have m0:=(x1.block _ (zd.1 n0).1).trans n0;have m2:=(x1.block _ (zd.1 n2).1).trans n2;have m3:=(x1.block _ (zd.1 aW).1).trans aW;have m4:=(x1.block _ (zd.1 ay).1).trans ay;have bZ:=(zd.1 ay).1;have bY:=x1.size;have bE:=zf ao;have a3:∀b,LvB (w.heap.size+1+1) b->w.heap.size+1+1<=b/\b<w0.heap.size:=by
  rintro b (rfl|rfl|rfl)<;>omega
 clear ao n0 bT n2 aW ay;gi_wp2;refine ZT (aD.out w0.heap.size) rfl (qW func231 kr rfl) (fun k bU W=>by rintro⟨aX,a7,_,rfl,_⟩;rfl)
  (LvI w1 (w.heap.size+1+1) ab k.edges aims k.over g) (fun _ _ _=>False) (LvB (w.heap.size+1+1)) ?hI ?hIx ?hC ?h0 ?round ?done ?stop
 case hI=>exact fun k a9 A bV z hk=>z.keep hk
 case hIx=>exact fun _ _ _ _ z _=>z
 case hC=>
  rintro J a9 A ⟨h1,h2,h3,ot,pt,fo,h4,h5,h6,h7⟩;refine⟨aB.out w0 w1 A _ (qk aA h1 (fun b hb=>by have:=a3 b hb;omega)) bE.out h1 (fun b hb=>(a3 b hb).2),fun b hb=>?_⟩;have:=a3 b ((h3 b).1 hb);have:=h1.size;omega
 case h0=>exact⟨Xj _ _,qo _,fun b=>Qb,⟨⟨(O,0,0),⟨false,O,0,0⟩,0⟩,(O,0,0)⟩,⟨false,O,0,0⟩,false,m2,m3,m4,rfl⟩
 case round=>
  rintro l2 J bU a9 A bX ⟨t0,u0,aO,rfl,an⟩ ⟨h1,h2,h3,ot,pt,fo,h4,h5,h6,h7⟩;have ak:J<k.edges.length:=om;have aj:=zg ak;have bl:=a2.edge _ (zJ ak);have aL:=a2.dot aM aK (zJ ak);have bt:k.edges.take (J+1)=k.edges.take J ++ [k.edges[J]]:=by rw[ZB,aj];rfl
  have bw:=zgN (g:=g) aj;rw[bw]at an;have bv:=qk aA h1 (fun b hb=>by have:=a3 b hb;omega);have b2:=zf (fun(W:H) (h:Ext w W)=>(b5.out.edge J t0 _ aO aj).ext h);have aI:Q5 aims k.over g (k.edges.take (J+1)) O=Q5 aims k.over g [k.edges[J]] (Q5 aims k.over g (k.edges.take J) O):=by rw[bt];exact zca _ _ _ _ _ _
  generalize k.edges[J]=ej at *;obtain⟨B,hz⟩:∃B,T.dotZ g ej.loss=B:=⟨_,rfl⟩;rw[hz]at an aL;obtain⟨az,hres⟩:∃az,Q5 aims k.over g (k.edges.take J) O=az:=⟨_,rfl⟩;rw[hres]at h7 aI;have bD:=zf aO;have bx:=zf aj;have af:=zf bl;have H7:=zf h7;have HZ:=zf hz;have aq:=zf aI;have au:=zoZ h4 h5 h6;obtain⟨⟨⟨q,u,t⟩,⟨s,x,f,y⟩,v⟩,⟨l,o,m⟩⟩:=t0;obtain⟨ub,ua,ul,uc⟩:=u0;obtain⟨⟨⟨bb,be,bd⟩,⟨bc,bh,bn,bi⟩,bf⟩,⟨aT,aV,aU⟩⟩:=ot;obtain⟨U,R,Z,Y⟩:=pt;simp only[ET.val,NT.fv,WT.sv,ET.lv,WT.val]at h4 h5 h6 an b2⊢;clear aO aj bl h7 hz aI bt bw hres;unfold Zz;gi_wp2;refine⟨Xg (((Xe A).alloc _).alloc _),fun C ar=>?_⟩;have xA:=((zn.alloc w1.heap.size A (cl #[V q u t,G s,V x f y,i_ v,V l o m] 194)).trans (zn.alloc w1.heap.size _ (cl #[G ub,V ua ul uc] 64))).trans ar;have e0:=ar.block _ _ (Xk A (cl #[V q u t,G s,V x f y,i_ v,V l o m] 194) (cl #[G ub,V ua ul uc] 64)).1 (.inr rfl);have e1:=ar.block _ _ (Xk A (cl #[V q u t,G s,V x f y,i_ v,V l o m] 194) (cl #[G ub,V ua ul uc] 64)).2 (.inr rfl);have g4:=xA.block _ _ h4 (.inr rfl);have g5:=xA.block _ _ h5 (.inr rfl);have g6:=xA.block _ _ h6 (.inr rfl);have g0:=xA.block _ _ (h1.some m0 (fun e=>by have:=a3 _ e;omega)) (.inr rfl);have aQ:=h1.keep xA;have ax:=qk aA aQ (fun b hb=>by have:=a3 b hb;omega);have bM:=ar.size;simp only[zL]at bM;have c8:=h1.size;have aP:=an.keep xA;have aY:=zf (H7.out.keep xA);have a0:=c_ 0 e1;have a1:=c_ 1 e1;have bp:=fun a5 h=>(au a5 h).keep xA
  have bC:=zf (sign_any C _ B aP);have ap:=zf (fun W (hW:Wr (LvB (w.heap.size+1+1)) C W)=>
   have q0:=hW.some e0 (fun e=>by have:=a3 _ e;omega);have q1:=hW.some e1 (fun e=>by have:=a3 _ e;omega);Xc (c_ 0 q0) (Xc (c_ 1 q0) (Xc (c_ 2 q0) (Xc (c_ 3 q0) (Xc (c_ 4 q0) (Xc (c_ 0 q1) (c_ 1 q1)))))))
  have ah:=zf (fun W (hW:Ext C W)=>
   have q0:=(hW.block _ (zd.1 e0).1).trans e0;have q1:=(hW.block _ (zd.1 e1).1).trans e1;have r0:=(hW.block _ (zd.1 g0).1).trans g0;have r4:=(hW.block _ (zd.1 g4).1).trans g4;have r5:=(hW.block _ (zd.1 g5).1).trans g5;have r6:=(hW.block _ (zd.1 g6).1).trans g6;Xc (c_ 0 r6) (Xc (Xc (c_ 0 r0) (Xc (c_ 1 r0) (Xc (c_ 2 r0) (c_ 3 r0)))) (Xc (c_ 4 q0) (Xc (Xc (c_ 0 r5) (c_ 1 r5)) (Xc (c_ 4 r4) (Xc (c_ 0 q1) (c_ 1 q1)))))))
  have ae:=zf (fun W (hW:Ext C W)=>Xc ((hW.block _ (zd.1 g4).1).trans g4) (Xc ((hW.block _ (zd.1 g5).1).trans g5) ((hW.block _ (zd.1 g6).1).trans g6)));have HU:=zf aP;have aE:=zf h3;have aF:Hid (∀I,Ext C I->Q5 aims k.over g (k.edges.take (J+1)) O=az->ZL a9 (LvI w1 (w.heap.size+1+1) ab k.edges aims k.over g) (fun _ _ _=>False) J A C .normal { tmps:=#[],defers:= [] } I):=by
   intro I x5 hr;obtain⟨a,p,M⟩:=ae.out I x5;refine⟨Xg x5,a9,⟨aQ.trans (Xg x5),ak,aE.out,⟨⟨(bb,be,bd),⟨bc,bh,bn,bi⟩,bf⟩,(aT,aV,aU)⟩,⟨U,R,Z,Y⟩,fo,a,p,M,?_⟩,fun a5 h=> .inl h⟩;rw[hr];exact aY.out.keep (B:=0) (zn.of_below x5)
  have aG:Hid (∀I,Ext C I->Q5 aims k.over g (k.edges.take (J+1)) O=E (ej,B)->ZL a9 (LvI w1 (w.heap.size+1+1) ab k.edges aims k.over g) (fun _ _ _=>False) J A C .normal { tmps:=#[],defers:= [] } (zeA I (w.heap.size+1+1) ⟨⟨(q,u,t),⟨s,x,f,y⟩,v⟩,(l,o,m)⟩ ⟨ub,ua,ul,uc⟩ true)):=by
   intro I x5 hr;obtain⟨a,p,M⟩:=ae.out I x5;have hp:=zim (ot:=⟨⟨(q,u,t),⟨s,x,f,y⟩,v⟩,(l,o,m)⟩) (pt:=⟨ub,ua,ul,uc⟩) (ot':=⟨⟨(bb,be,bd),⟨bc,bh,bn,bi⟩,bf⟩,(aT,aV,aU)⟩) (pt':=⟨U,R,Z,Y⟩) (fo':=true) a p M;have ad:=(Xg (T:=LvB (w.heap.size+1+1)) x5).trans (zgO I (w.heap.size+1+1) ⟨⟨(q,u,t),⟨s,x,f,y⟩,v⟩,(l,o,m)⟩ ⟨ub,ua,ul,uc⟩ true);refine⟨ad.mono fun a5 h=>(aE.out a5).2 h,a9,⟨aQ.trans ad,ak,aE.out,⟨⟨(q,u,t),⟨s,x,f,y⟩,v⟩,(l,o,m)⟩,⟨ub,ua,ul,uc⟩,true,hp.1,hp.2.1,hp.2.2,?_⟩,fun a5 h=> .inl h⟩;rw[hr];exact⟨rfl,⟨J,bx.out,bD.out⟩,HZ.out.symm,HU.out.wr ad bp⟩
  have bW:=ae;clear h1 h2 h3 h4 h5 h6 an aP e0 e1 g0 g4 g5 g6 m0 m2 m3 m4 aB aC aD bz au bp;gi_wp2;refine(Zq l2 (zq.2 bC.out)).mono ?_;rintro e N ⟨rfl,bG⟩;have x3:=Xf bG;by_cases hz:B<=0
  ·have bN:B.sign<=0:=by
    rcases zad B 0 with z|z|z
    ·rw[Qi z];decide
    ·rw[z];decide
    ·omega
   have HE:=zf (aF.out N x3 (by rw[aq.out,zcf,HZ.out,zQ hz];rfl));generalize B.sign=sg at *;clear a0 a1 hz aG aF aq HZ;gi_wp2;exact HE.out
  ·have bN:¬B.sign<=0:=by rw[Qs om];decide
   have b9:=zf hz;generalize B.sign=sg at *;clear a0 a1 hz;gi_wp2;cases hrs:az with
   |none=>
    have aJ:fo=false:=by have:=H7.out;rw[hrs]at this;exact this
    subst aJ;have HE:=zf (fun I x5=>aG.out I x5 (by rw[aq.out,zcf,HZ.out,zO (show ¬B<=0 by have:=b9.out;omega),hrs];rfl));refine jK (S:=fun W=>W.cell? ⟨w.heap.size+1+1+1+1,0,O⟩=E (G false)) hm (by rfl) (fun⟨aH,w,z⟩=>z) (ah.out N x3).1 (fun j=>?_);refine tkl [0,1,2,3,4,5,6,7,8,9,10,11,12,13,14,15,16] ?_;refine zV kr ?_ _;clear j;gi_wp2;have x6:=x3.drew.drew;obtain⟨a,p,M⟩:=ae.out _ x6;have f0:World.frozen? N.drew.drew (w_ w 0)=false:=Xh a;have f1:World.frozen? N.drew.drew (w_ w 1)=false:=Xh a;have f2:World.frozen? N.drew.drew (w_ w 2)=false:=Xh a;have f3:World.frozen? N.drew.drew (w_ w 3)=false:=Xh a;have f4:World.frozen? N.drew.drew (w_ w 4)=false:=Xh a;have f5:World.frozen? N.drew.drew (v_ w 0)=false:=Xh p;have f6:World.frozen? N.drew.drew (v_ w 1)=false:=Xh p;have f7:World.frozen? N.drew.drew ⟨w.heap.size+1+1+1+1,0,O⟩=false:=Xh M;have c0:=c_ 0 a;have c1:=c_ 1 a;have c2:=c_ 2 a;have c3:=c_ 3 a;have c4:=c_ 4 a;have c5:=c_ 0 p;have c6:=c_ 1 p;have c7:=c_ 0 M;have HF:=zf (HE.out _ x6);have HP:=zf (zgO N.drew.drew (w.heap.size+1+1) ⟨⟨(q,u,t),⟨s,x,f,y⟩,v⟩,(l,o,m)⟩ ⟨ub,ua,ul,uc⟩ true);have a8:=zf (fun X (hX:Wr (LvB (w.heap.size+1+1)) N.drew.drew X)=>ap.out X ((Xg x6).trans hX));unfold zeA at HF;simp only[NT.fv,WT.sv,ET.lv]at HF;refine jK (S:=fun W=>W.cell? (y_ A 0)=E (V q u t)/\W.cell? (y_ A 1)=E (G s)/\W.cell? (y_ A 2)=E (V x f y)/\W.cell? (y_ A 3)=E (i_ v)/\W.cell? (y_ A 4)=E (V l o m)/\W.cell? (x_ A 0)=E (G ub)/\W.cell? (x_ A 1)=E (V ua ul uc)) hm (by rfl) (fun⟨aH,w,z⟩=>z) (ap.out _ (Xg x6)) (fun j=>?_);generalize N.drew.drew=X at *;refine tkl [0,1] ?_;refine rd1 2 fun K d=>?_;go_simp;refine d.out _ _ (a8.out _ ((((((Xj _ _).trans (zv (.inl rfl) _)).trans (zv (.inl rfl) _)).trans (zv (.inl rfl) _)).trans (zv (.inl rfl) _)).trans (zv (.inl rfl) _))) (h:=fun j=>?_);clear d K;refine rd1 3 fun K d=>?_;go_simp;refine d.out _ _ (a8.out _ ((((((((Xj _ _).trans (zv (.inl rfl) _)).trans (zv (.inl rfl) _)).trans (zv (.inl rfl) _)).trans (zv (.inl rfl) _)).trans (zv (.inl rfl) _)).trans (zv (.inr (.inl rfl)) _)).trans (zv (.inr (.inl rfl)) _))) (h:=fun j=>?_);clear d K;refine rd1 4 fun K d=>?_;go_simp;refine d.out _ _ (a8.out _ HP.out) (h:=fun j=>?_);clear d K;refine zV kr ?_ _;clear j f0 f1 f2 f3 f4 f5 f6 f7 c0 c1 c2 c3 c4 c5 c6 c7;gi_wp2;exact HF.out
   |some a5=>
    obtain⟨a6,pz⟩:=a5;have bg:=aY.out;rw[hrs]at bg;obtain⟨aJ,⟨io,aN,bL⟩,br,bq⟩:=bg;subst aJ;have aw:=a2.edge a6 (zx aN);have av:=a2.dot aM aK (zx aN);rw[<-br]at av;have bB:=zf (fun(W:H) (h:Ext w W)=>((b5.out.edge io _ a6 bL aN).ext h).2);have aS:ej.loss.length=a6.loss.length:=by rw[af.out.1.2,aw.1.2]
    have bu:ej.loss.length<=4:=by rw[af.out.1.2];exact a2.n4
    have b1:=zf (fun(W:H) (h:Ext C W) (a7:WT) (hu:zy W a7.val (-B))=>b0.out W (ax.trans h) _ _ ej.loss a6.loss (b2.out W (ax.trans h)).2 (bB.out W (ax.trans h)) aS bu ⟨U,R,Z,Y⟩ a7 pz (-B) (bq.below h) hu (af.out.2.2.mono hc.le_gain) (aw.2.2.mono hc.le_gain) av (by have:=aL;unfold Lim at *;omega));have b8:=zf (fun(W:H) (h:Ext C W)=>zau W _ B (HU.out.below h));have b4:Hid (Zu (xB D) (ZJ k.over ej.loss pz a6.loss (-B))/\(ZJ k.over ej.loss pz a6.loss (-B)).length=n):=⟨zoY (by have:=a2.pos;omega) (af.out.2.2.mono hc.le_gain) (aw.2.2.mono hc.le_gain) av (by have:=aL;unfold Lim at *;omega),by rw[zhF aS,af.out.1.2]⟩;have bA:Hid (Q5 aims k.over g (k.edges.take (J+1)) O=if Qx (qT aims (ZJ k.over ej.loss pz a6.loss (-B)))<0 then E (ej,B)else E (a6,pz)):=by
     unfold Hid;rw[aq.out,zcf,HZ.out,zO (show ¬B<=0 by have:=b9.out;omega),hrs];rfl
    generalize ZJ k.over ej.loss pz a6.loss (-B)=cs at *;simp only[WT.val,WT.sv,ET.lv]at b1 b8;clear aw av aS bu bq br;refine jK (S:=fun W=>W.cell? ⟨w.heap.size+1+1+1+1,0,O⟩=E (G true)/\(W.cell? (y_ w 0)=E (V aa al ac)/\W.cell? (y_ w 1)=E (V oa ol oc)/\W.cell? (y_ w 2)=E (V pa pl pc)/\W.cell? (y_ w 3)=E (V ba el ec))/\W.cell? (y_ A 4)=E (V l o m)/\(W.cell? (v_ w 0)=E (G U)/\W.cell? (v_ w 1)=E (V R Z Y))/\W.cell? (w_ w 4)=E (V aT aV aU)/\W.cell? (x_ A 0)=E (G ub)/\W.cell? (x_ A 1)=E (V ua ul uc)) hm (by rfl) (fun⟨aH,w,z⟩=>z) (ah.out N x3) (fun j=>?_);refine tkl [0,1,2,3,4,5,6,7,8,9,10,11] ?_;refine rcl 12 (b8.out _ x3.drew) ?_;rintro e A4 ⟨_,rfl,hy,bH⟩;have x4:=x3.drew.trans (Xf bH);obtain⟨⟨yb,ya,yl,yc⟩,rfl⟩:=hy.shape;have aZ:=zf (b1.out A4 x4 ⟨yb,ya,yl,yc⟩ hy);simp only[WT.val,WT.sv]at aZ⊢;refine bk (ah.out _ x4) fun j=>?_
    refine rcl 13 aZ.out ?_;rintro e I ⟨⟨_,_,_⟩,rfl,bK,bI⟩;have x5:=x4.trans (Xf bI);have b6:=zf (b7.out I (ax.trans x5) _ cs bK b4.out.2 b4.out.1);simp only[sl3]at b6⊢;refine bk (ah.out _ x5) fun j=>?_
    refine rcl 14 b6.out ?_;rintro e A6 ⟨rfl,bJ⟩;have y6:=x5.trans (Xf bJ);have b3:=bA;generalize Qx (qT aims cs)=sg at *;refine bk (ah.out _ y6) fun j=>?_
    by_cases bs:sg<0
    ·have HE:=zf (fun I x5=>aG.out I x5 (by rw[b3.out,zQ bs]));refine tkl [15,16] ?_;refine zV kr ?_ _;clear j;gi_wp2;have x6:=y6.drew;obtain⟨a,p,M⟩:=ae.out _ x6;have f0:World.frozen? A6.drew (w_ w 0)=false:=Xh a;have f1:World.frozen? A6.drew (w_ w 1)=false:=Xh a;have f2:World.frozen? A6.drew (w_ w 2)=false:=Xh a;have f3:World.frozen? A6.drew (w_ w 3)=false:=Xh a;have f4:World.frozen? A6.drew (w_ w 4)=false:=Xh a;have f5:World.frozen? A6.drew (v_ w 0)=false:=Xh p;have f6:World.frozen? A6.drew (v_ w 1)=false:=Xh p;have f7:World.frozen? A6.drew ⟨w.heap.size+1+1+1+1,0,O⟩=false:=Xh M;have c0:=c_ 0 a;have c1:=c_ 1 a;have c2:=c_ 2 a;have c3:=c_ 3 a;have c4:=c_ 4 a;have c5:=c_ 0 p;have c6:=c_ 1 p;have c7:=c_ 0 M;have HF:=zf (HE.out _ x6);have HP:=zf (zgO A6.drew (w.heap.size+1+1) ⟨⟨(q,u,t),⟨s,x,f,y⟩,v⟩,(l,o,m)⟩ ⟨ub,ua,ul,uc⟩ true);have a8:=zf (fun X (hX:Wr (LvB (w.heap.size+1+1)) A6.drew X)=>ap.out X ((Xg x6).trans hX));unfold zeA at HF;simp only[NT.fv,WT.sv,ET.lv]at HF;refine jK (S:=fun W=>W.cell? (y_ A 0)=E (V q u t)/\W.cell? (y_ A 1)=E (G s)/\W.cell? (y_ A 2)=E (V x f y)/\W.cell? (y_ A 3)=E (i_ v)/\W.cell? (y_ A 4)=E (V l o m)/\W.cell? (x_ A 0)=E (G ub)/\W.cell? (x_ A 1)=E (V ua ul uc)) hm (by rfl) (fun⟨aH,w,z⟩=>z) (ap.out _ (Xg x6)) (fun j=>?_);generalize A6.drew=X at *;refine tkl [0,1] ?_;refine rd1 2 fun K d=>?_;go_simp;refine d.out _ _ (a8.out _ ((((((Xj _ _).trans (zv (.inl rfl) _)).trans (zv (.inl rfl) _)).trans (zv (.inl rfl) _)).trans (zv (.inl rfl) _)).trans (zv (.inl rfl) _))) (h:=fun j=>?_);clear d K;refine rd1 3 fun K d=>?_;go_simp;refine d.out _ _ (a8.out _ ((((((((Xj _ _).trans (zv (.inl rfl) _)).trans (zv (.inl rfl) _)).trans (zv (.inl rfl) _)).trans (zv (.inl rfl) _)).trans (zv (.inl rfl) _)).trans (zv (.inr (.inl rfl)) _)).trans (zv (.inr (.inl rfl)) _))) (h:=fun j=>?_);clear d K;refine rd1 4 fun K d=>?_;go_simp;refine d.out _ _ (a8.out _ HP.out) (h:=fun j=>?_);clear d K;refine zV kr ?_ _;clear j f0 f1 f2 f3 f4 f5 f6 f7 c0 c1 c2 c3 c4 c5 c6 c7;gi_wp2;exact HF.out
    ·have HE:=zf (aF.out A6 y6 (by rw[b3.out,zO bs,hrs]));refine tkl [15,16] ?_;refine zV kr ?_ _;clear j;gi_wp2;exact HE.out
 case done=>
  rintro D' a9 A hD ⟨h1,h2,h3,ot,pt,fo,h4,h5,h6,h7⟩ hd;rw[bo,Zx]at h7;have h7:=h7.keep (zn.drew 0 A);have a:A.drew.heap[w.heap.size+1+1]? =_:=h4;have p:A.drew.heap[w.heap.size+1+1+1]? =_:=h5;have M:A.drew.heap[w.heap.size+1+1+1+1]? =_:=h6;have qd:A.drew.heap[D']? =_:=hd;have qx:=(qk aA h1 (fun b hb=>by have:=a3 b hb;omega)).drew;have au:=zoZ a p M;obtain⟨⟨⟨q,u,t⟩,⟨s,x,f,y⟩,v⟩,⟨l,o,m⟩⟩:=ot;obtain⟨U,R,Z,Y⟩:=pt;have H7:=zf h7;have hp:=zim (ot:=⟨⟨(q,u,t),⟨s,x,f,y⟩,v⟩,(l,o,m)⟩) (pt:=⟨U,R,Z,Y⟩) (fo':=fo) a p M;have ad:=zgO A.drew (w.heap.size+1+1) ⟨⟨(q,u,t),⟨s,x,f,y⟩,v⟩,(l,o,m)⟩ ⟨U,R,Z,Y⟩ fo;simp only[NT.fv,WT.sv,ET.lv]at a p M hp;have f0:World.frozen? A.drew (w_ w 0)=false:=Xh a;have f1:World.frozen? A.drew (w_ w 1)=false:=Xh a;have f2:World.frozen? A.drew (w_ w 2)=false:=Xh a;have f3:World.frozen? A.drew (w_ w 3)=false:=Xh a;have f4:World.frozen? A.drew (w_ w 4)=false:=Xh a;have f5:World.frozen? A.drew (v_ w 0)=false:=Xh p;have f6:World.frozen? A.drew (v_ w 1)=false:=Xh p;have f7:World.frozen? A.drew ⟨w.heap.size+1+1+1+1,0,O⟩=false:=Xh M;have HS:Hid (∀X:H,X.heap[w.heap.size+1+1]? =E (cl #[V q u t,G s,V x f y,i_ v,V l o m] 194)->X.heap[w.heap.size+1+1+1]? =E (cl #[G U,V R Z Y] 64)->X.heap[w.heap.size+1+1+1+1]? =E (cl #[G fo] 4)->(X.cell? (w_ w 0)=E (V q u t)/\X.cell? (w_ w 1)=E (G s)/\X.cell? (w_ w 2)=E (V x f y)/\X.cell? (w_ w 3)=E (i_ v)/\X.cell? (w_ w 4)=E (V l o m)/\X.cell? (v_ w 0)=E (G U)/\X.cell? (v_ w 1)=E (V R Z Y)/\X.cell? ⟨w.heap.size+1+1+1+1,0,O⟩=E (G fo))):=fun X k4 k5 k6=>
   ⟨c_ 0 k4,c_ 1 k4,c_ 2 k4,c_ 3 k4,c_ 4 k4,c_ 0 k5,c_ 1 k5,c_ 0 k6⟩
  obtain⟨c0,c1,c2,c3,c4,c5,c6,c7⟩:=HS.out A.drew a p M;have HP:=zf hp;have ai:=zf ad;have HX:=zf qx;have HQ:=zf (Xc a (Xc p M));unfold zeA at HP ai;simp only[NT.fv,WT.sv,ET.lv]at HP ai;clear h1 h2 h3 h4 h5 h6 h7 hp ad qx a p M;gi_wp2;refine Jc (S:=fun X=>(X.cell? (w_ w 0)=E (V q u t)/\X.cell? (w_ w 1)=E (G s)/\X.cell? (w_ w 2)=E (V x f y)/\X.cell? (w_ w 3)=E (i_ v)/\X.cell? (w_ w 4)=E (V l o m)/\X.cell? (v_ w 0)=E (G U)/\X.cell? (v_ w 1)=E (V R Z Y)/\X.cell? ⟨w.heap.size+1+1+1+1,0,O⟩=E (G fo))) hm (HS.out A.drew HQ.out.1 HQ.out.2.1 HQ.out.2.2) (fun j=>?_);generalize A.drew=X at *;refine tkl [0,1,2] ?_;refine rd1 3 fun K d=>?_;go_simp;have k4:=qG (i:=4) (v:=V l o m) (qG (i:=3) (v:=i_ v) (qG (i:=2) (v:=V x f y) (qG (i:=1) (v:=G s) (qG (i:=0) (v:=V q u t) HQ.out.1))));have aR:Wr (fun b=>b=w.heap.size+1+1) X (((((X.setCell (w_ w 0) (V q u t)).setCell (w_ w 1) (G s)).setCell (w_ w 2) (V x f y)).setCell (w_ w 3) (i_ v)).setCell (w_ w 4) (V l o m)):=(((((Xj (fun b=>b=w.heap.size+1+1) X).trans (zv (U:=fun b=>b=w.heap.size+1+1) rfl _)).trans (zv (U:=fun b=>b=w.heap.size+1+1) rfl _)).trans (zv (U:=fun b=>b=w.heap.size+1+1) rfl _)).trans (zv (U:=fun b=>b=w.heap.size+1+1) rfl _)).trans (zv (U:=fun b=>b=w.heap.size+1+1) rfl _);have k5:=aR.some HQ.out.2.1 om;have k6:=aR.some HQ.out.2.2 om;refine d.out _ _ (HS.out _ k4 k5 k6) (h:=fun j=>?_);clear d K;refine rd1 4 fun K d=>?_;have HK:=zf (Xc k4 (Xc k5 k6));clear k4 k5 k6 aR;go_simp;have j5:=qG (i:=1) (v:=V R Z Y) (qG (i:=0) (v:=G U) HK.out.2.1);have j4:=set_other (g:=w.heap.size+1+1+1) (i:=1) (v:=V R Z Y) (set_other (g:=w.heap.size+1+1+1) (i:=0) (v:=G U) HK.out.1 om) om;have j6:=set_other (g:=w.heap.size+1+1+1) (i:=1) (v:=V R Z Y) (set_other (g:=w.heap.size+1+1+1) (i:=0) (v:=G U) HK.out.2.2 om) om;refine d.out _ _ (HS.out _ j4 j5 j6) (h:=fun j=>?_);clear d K;refine rd1 5 fun K d=>?_;clear j4 j5 j6;go_simp;refine d.out _ _ (HS.out _ HP.out.1 HP.out.2.1 HP.out.2.2) (h:=fun j=>?_);clear d K;refine zV kr ⟨rfl,?_⟩ _;have HH:=zf j;clear j f0 f1 f2 f3 f4 f5 f6 f7 c0 c1 c2 c3 c4 c5 c6 c7;gi_wp2;have bj:=ai.out.some qd (fun e=>by have:=a3 _ e;omega);refine qh bj ?_;have a4:=zn.putObj (B:=w.heap.size) (.deferred O) om bj rfl;obtain⟨u0,u1,u2,u3,u4,u5,u6,u7⟩:=HH.out;have d0:=a4.cell u0;have d1:=a4.cell u1;have d2:=a4.cell u2;have d3:=a4.cell u3;have d4:=a4.cell u4;have d5:=a4.cell u5;have d6:=a4.cell u6;have d7:=a4.cell u7;exact⟨tp #[ag #[V q u t,G s,V x f y,i_ v,V l o m],ag #[G U,V R Z Y],G fo],by simp[results,results165,go_sem,d0,d1,d2,d3,d4,d5,d6,d7],⟨⟨⟨(q,u,t),⟨s,x,f,y⟩,v⟩,(l,o,m)⟩,⟨U,R,Z,Y⟩,fo,rfl,(H7.out.wr ai.out au).keep a4⟩,a4.below (qk HX.out ai.out (fun b hb=>by have:=a3 b hb;omega)) (zh _) (zh _)⟩
 case stop=>exact fun _ _ _ _ _ _ z _=>z.elim
theorem NatV.sl(h:NatV w v n):∃f:S_,v=sl3 f:=by
 obtain⟨_,⟨a,b,c,_⟩,_⟩:=h;exact⟨(a,_,b),c⟩
theorem zkH(K:Nat)(hK:K<=1073741800)(w:H)(t:WT)(bd:Nat)(f:S_)(z:Int)(d:Nat)(hc:w.cell? (Xd bd 0 O)=E (sl3 f))(ht:zy w t.val z)(hd:NatV w (sl3 f) d)(hd0:d≠0)(hz:z.natAbs<4294967296^K)(hdk:d<4294967296^K):
 C_ 228 #[t.val,p_ bd 0] w fun e w'=>∃u:WT,e=Xa u.val/\zy w' u.val (z/(d:Int))/\b_ w w':=by
 obtain⟨tb,ta,tl,tc⟩:=t;obtain⟨da,dl,dc⟩:=f;simp only[WT.val,WT.sv,sl3]at *;have HAT:=zf (fun W (hx:Ext w W)=>zdb K (by omega) (zbV K hK) W _ _ z d (ht.below hx) (hd.below hx) hd0 hz hdk);have hbox:=Xm (w.alloc (cl #[G tb,V ta tl tc] 64)) (G false) (V_) 64;have hb0:=zaA w (cl #[G tb,V ta tl tc] 64) (cl #[G false,V_] 64);have c9:((w.alloc (cl #[G tb,V ta tl tc] 64)).alloc (cl #[G false,V_] 64)).cell? (Xd bd 0 O)=E (V da dl dc):=(((Xe w).alloc _).alloc _).cell hc;rw[zL]at hbox;clear ht hd hc;go_enter Tryz.func228,Tryz.ntmps228
 go_wp2_with fail
 refine(HAT.out _ (((Xe w).alloc _).alloc _)).mono ?_;rintro e w1 ⟨s,rfl,hs,hb1⟩;obtain⟨t,rfl⟩:=hs.shape;obtain⟨c0,c1,f0,f1,g0⟩:=hbox.below hb1;have HP:=zf (hs.put c0 c1);have hb2:=hb0.trans (hb1.mono hb0.size);obtain⟨rb,ra,rl,rc⟩:=t;simp only[WT.val,WT.sv]at HP⊢;clear hb1 hb0 hbox hs;go_wp2;exact zH (v:=ag #[G rb,V ra rl rc]) (by simp[results,Tryz.results228,go_sem,c0,c1]) rfl ⟨⟨rb,ra,rl,rc⟩,rfl,HP.out,(hb2.setCell (by simp) _).setCell (by simp) _⟩
theorem zq1(fa:A_)(fl fc:Nat)(f:Nat)(a:Value)(w:H):
 C_ 229 #[ag #[V fa fl fc],.func (.func f) #[] #[a]] w fun e w'=>e=Xa (.func (.func 256) #[] #[p_ w.heap.size 0,p_ (w.heap.size+1) 0])/\w'=(w.alloc (cl #[V fa fl fc] 102)).alloc (cl #[.func (.func f) #[] #[a]] 166):=by
 go_enter func229,ntmps229
 go_wp2;go_ret;exact⟨rfl,rfl⟩
def OvrY (zs:L_)(d:Nat)(k:Nat)(v:W_)(W:H):Prop:=∃(t:WT) (z:Int),zs[k]? =E z/\v=#[t.val]/\zy W t.val (z/(d:Int))
def OvrC (fa:A_)(fc:Nat)(zs:L_)(ts:List WT)(bs bf bd d:Nat)(f:S_)(W:H):Prop:=
 W.cell? (Xd bs 0 O)=E (V fa ts.length fc)/\W.cell? (Xd bf 0 O)=E (.func (.func 228) #[] #[p_ bd 0])/\W.cell? (Xd bd 0 O)=E (sl3 f)/\NatV W (sl3 f) d/\ZS W 64 (V fa ts.length fc) 2 (ts.map WT.cells)/\∀(i:Nat) (t:WT) (z:Int),ts[i]? =E t->zs[i]? =E z->zy W t.val z
theorem zlb(K:Nat)(s:K<=1073741800)(fa:A_)(fc:Nat)(zs:L_)(ts:List WT)(e:ts.length=zs.length)(a N I d:Nat)(f:S_)(b:zs.length<=1000000)(y:d≠0)(R:d<4294967296^K)(u:∀z∈zs,z.natAbs<4294967296^K):
 Ja pg 256 #[p_ a 0,p_ N 0] zs.length (OvrY zs d) (OvrC fa fc zs ts a N I d f):=by
 intro q J D b W v a1 hC c h0;obtain⟨hc,-⟩:=(hC 0 b W h0).1;have r:=zf hC;have HY:=zf c;have x:=zf e;clear c hC e;refine Q0 func256 ntmps256 (h:=?_);have c:a<W.heap.size:=zw hc;gi_wp2;refine(zq.2 (zde fa ts.length fc _)).mono ?_;rintro t a ⟨rfl,rfl⟩;gi_wp2;refine ZT (JO ts fa fc (W.heap.size+1+1) (by have:=x.out;omega)) rfl (qW func179 kr rfl) (fun k e W=>by rintro⟨_,_,rfl⟩;rfl)
  (ze8 W.heap.size (W.heap.size+1+1) q (V fa ts.length fc) J) (fun j k A=>j= .ret/\D k A) b ?hI ?hIx ?hC ?h0 ?round ?done ?stop
 case hI=>
  rintro k M A B ⟨a,i,l,m,o⟩ c;exact⟨v _ _ _ _ a (c.mono so),c.cell i,c.cell l,m,o⟩
 case hIx=>
  rintro j k A B ⟨a,i⟩ c;exact⟨a,a1 _ _ _ i (c.mono so)⟩
 case hC=>
  rintro k M A ⟨a,i,l,m,o⟩;exact⟨⟨l,(r.out k M A a).1.2.2.2.2.1.recs⟩,(r.out k M A a).2⟩
 case h0=>
  refine⟨v _ _ _ _ h0 (((zn.alloc _ _ _).trans (zn.alloc _ _ _)).trans (zn.alloc _ _ _)),?_,?_,?_,?_⟩;·exact(((ZU W 227 (.func (.yield q) #[] #[])).alloc _).alloc _).cell
  ·have:=(ZU ((W.alloc (cl #[.func (.yield q) #[] #[]] 227)).alloc (cl #[V fa ts.length fc] 102)) 100 (V fa ts.length fc)).cell;simpa using this
  ·intro h;have:=(r.out 0 b W h0).2 _ h;omega
  ·intro h;have:=(r.out 0 b W h0).2 _ h;omega
 case round=>
  rintro b k e M A b ⟨e,b,rfl⟩ ⟨a,i,l,m,o⟩;have g:k<zs.length:=by have:=x.out;omega
  obtain⟨z,hzk⟩:∃z,zs[k]? =E z:=⟨_,zg g⟩;obtain⟨-,a3,a4,a5,-,a6⟩:=(r.out k M A a).1;have a2:=a6 k e z b hzk;have T:=u z (zx hzk);have C:=zf (fun(u:WT) (b:H) (w:zy b u.val (z/(d:Int))) hj=>HY.out k #[u.val] M b g ⟨u,z,hzk,rfl,w⟩ hj);have B:=zf (fun g (c:zn W.heap.size A g)=>zkH K s g e I f z d (c.cell a4) (a2.keep c) (a5.keep c) y T R);obtain⟨X,U,Z,Y⟩:=e;simp only[WT.val,WT.sv]at C B⊢;unfold Zz;gi_wp2;refine⟨Xg ((Xe A).alloc _),fun e a0=>?_⟩;have s:=(zn.alloc _ A (cl #[G X,V U Z Y] 64)).trans a0;have xA:zn W.heap.size A e:=s.mono so;have y:=s.cell i;have g1:=s.cell a3;have T:=s.cell l;have R:=a0.block _ _ (zC A (cl #[G X,V U Z Y] 64)) (.inr rfl);have a7:=v _ _ _ _ a (xA.trans (zn.drew _ _));have s:=xA.size;have a8:=zf (B.out _ (xA.trans (zn.drew _ _)));have a0:=zf (fun g (s:Ext e g)=>
   have q0:=(s.block _ (zd.1 R).1).trans R;Xc (s.cell y) (Xc (s.cell g1) (Xc (c_ 0 q0) (c_ 1 q0))))
  have a9:Hid (∀(u:WT) (b:H),zy b u.val (z/(d:Int))->Ext e.drew b->YieldAt Fence.wide 0 pg q #[u.val] b fun t s=>
   (t=Xa (G true)/\Hid (ZL M (ze8 W.heap.size (W.heap.size+1+1) q (V fa ts.length fc) J) (fun j k A=>j= .ret/\D k A) k A e .normal { tmps:=#[],defers:= [] } s))\/(t=Xa (G false)/\Hid (ZL M (ze8 W.heap.size (W.heap.size+1+1) q (V fa ts.length fc) J) (fun j k A=>j= .ret/\D k A) k A e .ret { tmps:=#[],defers:= [] } s))):=by
   intro u b w D;have xB:=ZG D;have J:=xB.size;have J:=zw y;have aa:=zw T;simp only at J aa;refine zcD (C.out u b w (v _ _ _ _ a7 (zn.of_below D))) ?_;rintro t s (⟨rfl,u,J,aa,D⟩|⟨rfl,u,hx⟩)
   ·refine .inl ⟨rfl,(Xg xB).trans u,J,⟨aa,u.cell (p:=(y_ W 0)) m (xB.cell y),u.cell (p:=(w_ W 0)) o (xB.cell T),fun h=>?_,fun h=>?_⟩,fun aa J=>?_⟩
    ·rcases D _ h with h|h
     ·exact m h
     ·omega
    ·rcases D _ h with h|h
     ·exact o h
     ·omega
    ·rcases D aa J with h|h
     ·exact .inl h
     ·exact .inr om
   ·exact .inr ⟨rfl,(Xg xB).trans u,rfl,hx⟩
  clear R a i l m o C HY r y g1 T a7 hc a3 a4 a5 a6 a2 B;refine ZW (zcE ?_);refine zdM 4 (S:=fun g=>g.cell? (y_ W 0)=E (.func (.yield q) #[] #[])/\g.cell? (Xd N 0 O)=E (.func (.func 228) #[] #[p_ I 0])/\g.cell? (y_ A 0)=E (G X)/\g.cell? (y_ A 1)=E (V U Z Y)) hm (by rfl) (fun⟨_,_,h⟩=>h) (a0.out e (Xe _)) (h:=fun g=>?_);refine tkv 0 ?_;refine tkv 1 ?_;refine tkv 2 ?_;refine rcl 3 (a8.out) ?_;rintro t b ⟨⟨r,q,u,t⟩,rfl,w,h⟩;have xB:=ZG h;have e:=zf (a9.out ⟨r,q,u,t⟩ b w h);simp only[WT.val,WT.sv]at e⊢;refine bk (a0.out _ xB) fun g=>?_
  refine zV kr ?_ _;clear g;refine ziM (h:=?_);go_simp;refine JS e.out ?_ ?_
  ·intro s b;refine zds (h:=?_);go_simp;gi_wp2;exact b.out
  ·intro s b;refine zds (h:=?_);go_simp;gi_wp2;exact b.out
 case done=>
  rintro D M A e ⟨a,i,l,m,o⟩ b;gi_wp2;refine qh b ?_;refine⟨_,qI rfl _ _ _,⟨_,rfl⟩,.inl ⟨M,?_⟩⟩;rw[<-x.out];exact v _ _ _ _ a (zn.putObj _ (by simp at e;omega) b rfl)
 case stop=>
  rintro D j k A e c ⟨rfl,a⟩ b;gi_wp2;refine qh b ?_;exact⟨_,qI rfl _ _ _,⟨_,rfl⟩,.inr ⟨k,by have:=x.out;omega,a1 _ _ _ a (zn.putObj _ (by simp at e;omega) b rfl)⟩⟩
