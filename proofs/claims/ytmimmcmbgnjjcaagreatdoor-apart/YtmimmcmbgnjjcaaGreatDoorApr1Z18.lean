import Derived.Test.YtmimmcmbgnjjcaaGreatDoorApr1Z5
open Option renaming none->O,some->E
open Go.Value renaming slice->V,string->gS,int->it,agg->ag
open Go.Obj renaming cells->cl
open Go renaming World->H
open Go.Proofs.Tryz renaming prog->pg
open Go.Proofs.Tryz
open Go.Ending renaming returned->Xa
open Go.IntKind renaming i64->Xb
open Go.Addr renaming mk->Xd
set_option linter.unusedSimpArgs false
set_option linter.unusedVariables false
set_option maxHeartbeats 2000000
set_option maxRecDepth 100000
namespace Go.Proofs.YtmimmcmbgnjjcaaGreatDoor
open Go.RowKit
variable {w:H}
theorem ze9(s:ByteArray)(a n:Nat)(b:0<n):fv s a n<n:=by
 unfold fv;split
 ·exact Z0 _ b
 ·exact b
theorem zfa(s:ByteArray)(a:Nat)(h:a<=s.size):fa s a<=s.size:=by
 unfold fa;split
 ·omega
 ·exact h
theorem wrap_small(z:Int)(h1:-1000<=z)(h2:z<=1000):IntKind.i64.wrap z=z:=by
 unfold IntKind.wrap;simp only[IntKind.bits,IntKind.signed,zaT];split
 ·rename_i h
  have:=jU h;omega
 ·rename_i h
  have a:¬(z%2^64>=2^(64-1)):=fun e=>h (zbA e)
  omega
def sixNil:List (Value×Nat×List Value):= [(V O 0 0,3,[]),(V O 0 0,3,[]),(V O 0 0,3,[]),(V O 0 0,22,[]),(V O 0 0,3,[]),(V O 0 0,3,[])]
theorem zgP:∀r∈sixNil,r.1=V O 0 0/\r.2.2= []:=by
 intro r a;simp only[sixNil,zI,zY,Zp]at a;rcases a with rfl|rfl|rfl|rfl|rfl|rfl<;>exact⟨rfl,rfl⟩
def zen (vM vL vH vG vS vR:Value)(mx lo hi:List Int)(gv:List Value)(ss rs:List Int):List (Value×Nat×List Value):= [(vM,3,ivs mx),(vL,3,ivs lo),(vH,3,ivs hi),(vG,22,gv),(vS,3,ivs ss),(vR,3,ivs rs)]
theorem zeo(zs:List Int)(z:Int):ivs zs ++ [it Xb z]=ivs (zs ++ [z]):=by simp[ivs]
theorem zep(zs:List Int):(ivs zs).length=zs.length:=by simp[ivs]
structure zhI (i:Nat)(mx lo hi:List Int):Prop where
 m:mx.length=i
 l:lo.length=i
 h:hi.length=i
 bm:∀z∈mx,z.natAbs<=6
 bl:∀z∈lo,z.natAbs<=99
 bh:∀z∈hi,z.natAbs<=99
 w:∀r∈lo.zip hi,-1<=r.2-r.1/\r.2-r.1<=5
theorem zcF{a:Type}{P:a->Prop}{l:List a}{x:a}(h:∀z∈l,P z)(b:P x):∀z∈l ++ [x],P z:=by
 intro z a;rcases zU.1 a with a|a
 ·exact h z a
 ·rw[qg.1 a];exact b
theorem zhI.more{i:Nat}{mx lo e:List Int}(h:zhI i mx lo e)(a b c d:Nat)(f:a<11)(hb:b<7)(g:c<6)(j:d<16):zhI (i+1) (mx ++ [(a:Int)-4]) (lo ++ [(b:Int)-3]) (e ++ [(b:Int)-3+c-(d/15:Nat)]):=by
 refine⟨by simp[h.m],by simp[h.l],by simp[h.h],zcF h.bm om,zcF h.bl om,zcF h.bh om,?_⟩;rw[List.zip_append (by rw[h.l,h.h])];exact zcF h.w (by show -1<=((b:Int)-3+c-(d/15:Nat))-((b:Int)-3)/\_<=(5:Int);omega)
theorem Sm.begin{w1:H}{b:Nat}{s:ByteArray}{a:Nat}(c:Zh w1 b (gS s) (it Xb (a:Nat)))(e:a<=s.size)(hg:w.heap.size<=b)(d:Below w.heap.size w w1)(t:TypeId):
 Sm (w1.heap.size+1) b w1.heap.size w (w1.alloc (cl #[V O 0 0,V O 0 0,V O 0 0,V O 0 0,V O 0 0,V O 0 0] t)) s a sixNil []:=by
 have b:=c.2.2.2.2;have g:=d.size;have h:=qR w1 (cl #[V O 0 0,V O 0 0,V O 0 0,V O 0 0,V O 0 0,V O 0 0] t);refine⟨⟨hg,om,om,om,om⟩,sp,c.alloc _,e,fun k r b=>?_,⟨fun k v t c b=>?_,fun j k r q f b _ c e=>?_⟩,d.trans ((qf _ _).alloc g _)⟩
 ·have c:=(zgP r (zx b)).1;have d:k<6:=(zo.1 b).1;rw[c];refine⟨(ze _ _ k _ _ _ h).trans ?_,World.frozen?_alloc_at _ _ _ _ rfl⟩;have:k=0\/k=1\/k=2\/k=3\/k=4\/k=5:=om;rcases this with rfl|rfl|rfl|rfl|rfl|rfl<;>rfl
 ·rw[ZR]at b;obtain⟨c,d⟩:=zgP _ (zx b);simp only at c d;subst c d;exact zaf _ _ _ _
 ·rw[ZR]at f;rw[(zgP _ (zx f)).1]at e;cases e
def zd2 (gv:List Value)(gs:List (List Int)):List (Value×Nat×List Value):=(gv.zip gs).map fun p=>(p.1,3,ivs p.2)
theorem znS{gv:List Value}{a:List (List Int)}(h:gv.length=a.length)(v:Value)(zs:List Int):zd2 gv a ++ [(v,3,ivs zs)]=zd2 (gv ++ [v]) (a ++ [zs]):=by
 unfold zd2;rw[List.zip_append h,Z6];rfl
structure SecP (m:Nat)(gs:List (List Int))(ss rs:List Int):Prop where
 s:ss.length=gs.length
 r:rs.length=gs.length
 bg:∀g∈gs,g.length=m/\∀z∈g,z.natAbs<=99
 bs:∀k∈ss,0<=k/\k<=2
 br:∀z∈rs,z.natAbs<=99
theorem SecP.more{m:Nat}{a:List (List Int)}{b rs:List Int}(h:SecP m a b rs){zs:List Int}(c:zs.length=m)(hb:∀z∈zs,z.natAbs<=99){sg:Int}(hs:0<=sg/\sg<=2){x:Nat}(d:x<31):SecP m (a ++ [zs]) (b ++ [sg]) (rs ++ [(x:Int)-6]):=
 ⟨by simp[h.s],by simp[h.r],zcF h.bg ⟨c,hb⟩,zcF h.bs hs,zcF h.br om⟩
theorem Sm.lastOwn{B c d:Nat}{w0:H}{s:ByteArray}{a:Nat}{l b:List (Value×Nat×List Value)}{t:Nat}{v:Value}{xs:List Value}(h:Sm B c d w0 w s a l (b ++ [(v,t,xs)])):w.ownsRow B t 1 v xs.length xs:=by
 refine h.pen.own (l++b).length v t xs ?_;rw[<-Zl,zG (zh _),Qn];rfl
theorem zbM{B t n:Nat}{v:Value}{xs:List Value}(h:w.ownsRow B t 1 v n xs):∃a l c,v=V a l c:=by
 obtain⟨_,a|⟨_,_,_,b,_⟩⟩:=h;·exact⟨_,_,_,a.1⟩
 ·exact⟨_,_,_,b⟩
theorem Tryz.infoIs:(Tryz.prog.info? 22).map (fun i=>(i.zero,i.size,i.bytes))=E (E (V O 0 0),1,24):=kr
theorem zq2(w:H)(o:Obj)(v:Value)(t:TypeId):∀(j:Nat) (u:Value),[v][j]? =E u->((w.alloc o).alloc (cl #[v] t)).cell? ((⟨w.heap.size+1,0,O⟩:Addr).add j)=E u:=by
 have e:(w.alloc o).heap.size=w.heap.size+1:=sp;rw[<-e];exact JC _ _ _
def SmallR (w:H)(e:Ending)(w':H):Prop:=
 ∃(B n:Nat) (vM vL vH vG vS vR:Value) (mx lo hi:List Int) (gv:List Value) (gs:List (List Int)) (ss rs:List Int),e=Xa (ag #[vM,vL,vH,vG,vS,vR])/\n<3/\zhI (n+1) mx lo hi/\SecP (n+1) gs ss rs/\gs.length<=3/\gv.length=gs.length/\Pen B w' (zen vM vL vH vG vS vR mx lo hi gv ss rs++zd2 gv gs)/\Below w.heap.size w w'
def sgF (x:Nat):Int:=if x<3 then 0 else if x=3 then 1 else 2
theorem sgF_is(x:Nat):0<=sgF x/\sgF x<=2:=by
 unfold sgF;split
 ·omega
 ·split<;>omega
theorem zo0(w:H)(x:Nat)(h:x<5):(w.alloc (cl #[it Xb 0,it Xb 0,it Xb 0,it Xb 1,it Xb 2] 3)).cell? (Xd w.heap.size x O)=E (it Xb (sgF x)):=by
 refine(ze _ _ x _ _ _ (qR w _)).trans ?_;have:x=0\/x=1\/x=2\/x=3\/x=4:=om;rcases this with rfl|rfl|rfl|rfl|rfl<;>rfl
theorem zo1(s:ByteArray)(w:H)(hs:s.size<=9223372036854775807):
 Calls pg 8 #[gS s] w fun e w'=>SmallR w e w':=by
 obtain⟨i0,X,Z,a0,aa⟩:=Zn T.Tryz.infoInt;have C:=zf (fun(W:H) (b n:Nat) (f:Zh W (w.heap.size+1) (gS s) (it Xb (b:Nat))) (j:b<=s.size) (hn:0<n) (bO:n<=1000)=>zqv s (w.heap.size+1) b n W f hs j hn bO);go_enter func8,ntmps8
 go_wp2_with fail
 refine(C.out _ 0 3 (Zh.new1 _ _ _ _ _) (qo _) om om).mono ?_;rintro e w1 ⟨rfl,bd,bl⟩;have aJ:Below (w.alloc (cl #[V O 0 0,V O 0 0,V O 0 0,V O 0 0,V O 0 0,V O 0 0] 25)).heap.size (w.alloc (cl #[V O 0 0,V O 0 0,V O 0 0,V O 0 0,V O 0 0,V O 0 0] 25)) w1:=((qf _ _).alloc (zh _) _).trans (bl.below sp (by intro k hk;simp;omega));have aB:Hid ((w.alloc (cl #[V O 0 0,V O 0 0,V O 0 0,V O 0 0,V O 0 0,V O 0 0] 25)).heap[w.heap.size]? =E (cl #[V O 0 0,V O 0 0,V O 0 0,V O 0 0,V O 0 0,V O 0 0] 25)/\Below w.heap.size w (w.alloc (cl #[V O 0 0,V O 0 0,V O 0 0,V O 0 0,V O 0 0,V O 0 0] 25))/\(w.alloc (cl #[V O 0 0,V O 0 0,V O 0 0,V O 0 0,V O 0 0,V O 0 0] 25)).heap.size=w.heap.size+1):=⟨qR w _,(qf _ w).alloc (zh _) _,sp⟩;have bR:=ze9 s 0 3 om;have bE:=zfa s 0 (qo _);generalize fv s 0 3=n at *;generalize fa s 0=a1 at *;clear bl;generalize w.alloc (cl #[V O 0 0,V O 0 0,V O 0 0,V O 0 0,V O 0 0,V O 0 0] 25)=Q at aJ aB;have aD:=Sm.begin bd bE (by have:=aB.out.2.2;omega) aJ 25;clear bd aJ;go_wp2_with fail
 generalize World.alloc _ _=wB at *;generalize w1.heap.size=c at *;have az:=zf aD.lt;generalize bZ:w.heap.size+1=L at *;generalize bJ:w.heap.size=d at *;go_loopw [6] (fun iv wr=>∃(y b:Nat) (vM N J:Value) (m h l:List Int),iv=it Xb (y:Nat)/\y<=n+1/\Hid (zhI y m h l)/\Sm (c+1) L c Q wr s b (zen vM N J (V O 0 0) (V O 0 0) (V O 0 0) m h l [] [] []) []) (fun iv _=>(n+1)-(intOf iv).toNat)
 case atStart=>exact⟨0,a1,_,_,_,[],[],[],rfl,om,⟨rfl,rfl,rfl,sp,sp,sp,sp⟩,aD⟩
 case round=>
  obtain⟨y,b,vM,N,J,m,h,l,rfl,_,HF,a⟩:=hrel;have j:=a.sz;by_cases c0:y<n+1
  ·have b1:=ze9 s b 11 om;have a2:=zfa s b j;have aU:=zf (fun W f=>C.out W b 11 f j om om);generalize fv s b 11=x1 at *;generalize fa s b=c2 at *;have b2:=ze9 s c2 7 om;have a3:=zfa s c2 a2;have aV:=zf (fun W f=>C.out W c2 7 f a2 om om);generalize fv s c2 7=u at *;generalize fa s c2=c3 at *;have b3:=ze9 s c3 6 om;have a4:=zfa s c3 a3;have bv:=zf (fun W f=>C.out W c3 6 f a3 om om);generalize fv s c3 6=x3 at *;generalize fa s c3=c4 at *;have b4:=ze9 s c4 16 om;have a5:=zfa s c4 a4;have bw:=zf (fun W f=>C.out W c4 16 f a4 om om);generalize fv s c4 16=x4 at *;generalize fa s c4=c5 at *;have SD:=a.ext (Xe wr).drew;have p0:=(SD.box 0 _ rfl).1;have aK:Hid ((ivs m).length=y):=by rw[Hid,zep];exact HF.out.m
   have bW:IntKind.i64.wrap ((x1:Int)-4)=(x1:Int)-4:=wrap_small _ om om;go_wp2_with fail
   go_cut [6] (fun iv wc=>iv=it Xb (y:Nat)/\∃ax,Sm (c+1) L c Q wc s c2 (zen ax N J (V O 0 0) (V O 0 0) (V O 0 0) (m ++ [(x1:Int)-4]) h l [] [] []) [])
   case first=>
    go_region_law (first|(have R:=o.le;refine zbZ _ rfl (.tmp 23) (.tmp 27) 22 rfl (c+1) 3 i0 (it Xb 0) 1 8 underlying22 X Z a0 aa rfl dc vM (ivs m).length (ivs m) rfl (o.pen.own 0 _ _ _ rfl) ⟨wA.heap.size,0,O⟩ 1 1 [it Xb ((x1:Int)-4)] rfl rfl (JC _ _ _) (by simp[Value.oneCell']) om (by have:=aK.out;unfold maxLen;omega) (by have:=aK.out;omega) o.le (wA.heap.size+1) sp ?_;intro g2 an w2 I g D ar;obtain⟨q0,aw⟩:=o.far (k:=0) rfl g (j:=0) rfl)|(go_simp;go_at_call 27;refine(aU.out _ (by exact SD.fd)).mono ?_;rintro e wA ⟨rfl,aE,aO⟩;have SA:=SD.next aE a2 aO;have pA:=(SA.box 0 _ rfl).1;have o:=SA.ext ((Xe wA).alloc (cl #[it Xb ((x1:Int)-4)] 3));have pB:=(o.box 0 _ rfl).1;go_wp2_with fail))
    all_goals
     have r:=o.field (k:=0) rfl g I (D.imp id (fun e=>by rw[e];simp));rw[zeo]at r;go_wp2_with fail
     go_meet
     exact⟨rfl,_,r⟩
   case rest=>
    obtain⟨rfl,ax,ab⟩:=hcut;clear a SD p0 aK bW aU;have wr2:IntKind.i64.wrap ((u:Int)-3)=(u:Int)-3:=wrap_small _ om om;go_wp2_with fail
    refine(aV.out _ ab.fd).mono ?_;rintro e wC ⟨rfl,bg,bp⟩;have SC:=ab.next bg a3 bp;have pC:=(SC.box 1 _ rfl).1;have SE:=SC.ext ((Xe wC).alloc (cl #[it Xb ((u:Int)-3)] 3));have aI:Hid ((ivs h).length=y):=by rw[Hid,zep];exact HF.out.l
    clear ab bg bp;go_wp2_with (at_builtin;refine wpList_append_lies _ rfl _ _ 22 rfl (c+1) 3 i0 (it Xb 0) 1 8 underlying22 X Z a0 aa rfl dc N (ivs h).length (ivs h) rfl (SE.pen.own 1 _ _ _ rfl) ⟨wC.heap.size,0,O⟩ 1 1 [it Xb ((u:Int)-3)] rfl rfl (JC _ _ _) (by simp[Value.oneCell']) om (by have:=aI.out;unfold maxLen;omega) (by have:=aI.out;omega) SE.le (wC.heap.size+1) sp ?_)
    intro g3 ap w3 Y F S au;obtain⟨q1,aP⟩:=SE.far (k:=1) rfl F (j:=1) rfl;have A:=SE.field (k:=1) rfl F Y (S.imp id (fun e=>by rw[e];simp));rw[zeo]at A;go_wp2_with fail
    generalize World.setCell _ _ _=w4 at *;generalize (V (E (Xd g3 0 O)) ((ivs h).length+1) ap:Value)=bs at *;have ad:Sm (c+1) L c Q w4 s c3 (zen ax bs J (V O 0 0) (V O 0 0) (V O 0 0) (m ++ [(x1:Int)-4]) (h ++ [(u:Int)-3]) l [] [] []) []:=A;clear A q1 aP au S F Y SE SC pC aI wr2 aV;have bh:Hid ((ivs l).length=y):=by rw[Hid,zep];exact HF.out.h
    have i:=ad.ext (Xe w4).drew;have p2:=(i.box 2 _ rfl).1;have bu:=zf (HF.out.more x1 u x3 x4 b1 b2 b3 b4);have cc:(x4:Int).tdiv 15=((x4/15:Nat):Int):=by rw[Int.tdiv_eq_ediv_of_nonneg om];rfl
    have bq:x4/15<=1:=om;generalize x4/15=af at *;have ce:IntKind.i64.wrap ((u:Int)-3+(x3:Int))=(u:Int)-3+(x3:Int):=wrap_small _ om om;have cf:IntKind.i64.wrap (af:Int)=(af:Int):=wrap_small _ om om;have cg:IntKind.i64.wrap ((u:Int)-3+(x3:Int)-(af:Int))=(u:Int)-3+(x3:Int)-(af:Int):=wrap_small _ om om;clear ad;go_region_law (first|(have R:=SJ.le;refine zbZ _ rfl (.tmp 40) (.tmp 49) 22 rfl (c+1) 3 i0 (it Xb 0) 1 8 underlying22 X Z a0 aa rfl dc J (ivs l).length (ivs l) rfl (SJ.pen.own 2 _ _ _ rfl) ⟨wH.heap.size,0,O⟩ 1 1 [it Xb ((u:Int)-3+(x3:Int)-(af:Int))] rfl rfl (JC _ _ _) (by simp[Value.oneCell']) om (by have:=bh.out;unfold maxLen;omega) (by have:=bh.out;omega) SJ.le (wH.heap.size+1) sp ?_;intro g2 an w2 I g D ar;obtain⟨q0,aw⟩:=SJ.far (k:=2) rfl g (j:=2) rfl)|(have hG:=SG.le;go_simp;go_at_call 27;refine(bw.out _ (by exact SG.fd)).mono ?_;rintro e wH ⟨rfl,bH,bQ⟩;have SH:=SG.next bH a5 bQ;have pH:=(SH.box 2 _ rfl).1;have SJ:=SH.ext ((Xe wH).alloc (cl #[it Xb ((u:Int)-3+(x3:Int)-(af:Int))] 3));have pJ:=(SJ.box 2 _ rfl).1;go_wp2_with fail)|(go_simp;go_at_call 27;refine(bv.out _ (by exact i.fd)).mono ?_;rintro e wG ⟨rfl,bG,bP⟩;have SG:=i.next bG a4 bP;have pG:=(SG.box 2 _ rfl).1;go_wp2_with fail))
    all_goals
     have r:=SJ.field (k:=2) rfl g I (D.imp id (fun e=>by rw[e];simp));rw[zeo]at r;go_wp2_with fail
     go_roundw
    all_goals first|exact⟨y+1,c5,ax,bs,_,_,_,_,by go_num,om,bu,r⟩|(simp[intOf];omega)
  ·obtain rfl:y=n+1:=om;have bt:=HF;clear HF aD;have b5:=ze9 s b 4 om;have a6:=zfa s b j;have aW:=zf (fun W f=>C.out W b 4 f j om om);generalize fv s b 4=x5 at *;generalize fa s b=c6 at *;go_wp2_with fail
   refine(aW.out _ a.fd).mono ?_;rintro e w5 ⟨rfl,be,bn⟩;have S5:=a.next be a6 bn;clear be bn a aW;go_wp2_with fail
   go_loopw [8] (fun kv wr=>∃(k b:Nat) (vG vS vR:Value) (gv:List Value) (q:List (List Int)) (t B:List Int),kv=it Xb (k:Nat)/\k+q.length<=3/\Hid (gv.length=q.length)/\Hid (SecP (n+1) q t B)/\Sm (c+1) L c Q wr s b (zen vM N J vG vS vR m h l gv t B) (zd2 gv q)) (fun kv _=>(intOf kv).toNat)
   case atStart=>exact⟨x5,c6,_,_,_,[],[],[],[],rfl,so,rfl,⟨rfl,rfl,sp,sp,sp⟩,S5⟩
   case round=>
    clear S5;obtain⟨k,b,vG,vS,vR,gv,q,t,B,rfl,_,ae,ah,a⟩:=hrel;have j:=a.sz;by_cases ca:0<k
    ·have cb:(0:Int)<(k:Int):=om;have bc:=a.start 3;clear a;go_wp2_with fail
     go_loopw [9,10] (fun bD jv wr=>∃(z b:Nat) (vg:Value) (x:List Int),bD=vg/\jv=it Xb (z:Nat)/\z<=n+1/\Hid (x.length=z/\∀bX∈x,bX.natAbs<=99)/\Sm (c+1) L c Q wr s b (zen vM N J vG vS vR m h l gv t B) (zd2 gv q ++ [(vg,3,ivs x)])) (fun _ jv _=>(n+1)-(intOf jv).toNat)
     case atStart=>exact⟨0,b,_,[],rfl,rfl,om,⟨rfl,sp⟩,bc⟩
     case round=>
      clear bc j;obtain⟨z,b,vg,x,aN,rfl,_,HZ,a⟩:=hrel;replace aN:=aN.symm
      subst aN;have j:=a.sz;by_cases c1:z<n+1
      ·have b7:=ze9 s b 13 om;have a7:=zfa s b j;have bx:=zf (fun W f=>C.out W b 13 f j om om);generalize fv s b 13=x7 at *;generalize fa s b=c7 at *;have ch:IntKind.i64.wrap ((x7:Int)-4)=(x7:Int)-4:=wrap_small _ om om;go_wp2_with fail
       refine(bx.out _ a.fd).mono ?_;rintro e w7 ⟨rfl,bf,bo⟩;have S7:=a.next bf a7 bo;have S8:=S7.ext ((Xe w7).alloc (cl #[it Xb ((x7:Int)-4)] 3));have br:Hid ((ivs x).length=z):=by rw[Hid,zep];exact HZ.out.1
       clear a bf bo;go_wp2_with (at_builtin;refine wpList_append_lies _ rfl _ _ 22 rfl (c+1) 3 i0 (it Xb 0) 1 8 underlying22 X Z a0 aa rfl dc vg (ivs x).length (ivs x) rfl S8.lastOwn ⟨w7.heap.size,0,O⟩ 1 1 [it Xb ((x7:Int)-4)] rfl rfl (JC _ _ _) (by simp[Value.oneCell']) om (by have:=br.out;unfold maxLen;omega) (by have:=br.out;omega) S8.le (w7.heap.size+1) sp ?_)
       intro g3 ap w3 Y F S au;have A:=S8.last F Y (S.imp id (fun e=>by rw[e];simp));rw[zeo]at A;go_wp2_with fail
       go_roundw
       case rel=>exact⟨z+1,c7,_,x ++ [(x7:Int)-4],rfl,by go_num,om,⟨by simp[HZ.out.1],zcF HZ.out.2 om⟩,A⟩
       case measure=>simp[intOf];omega
      ·obtain rfl:z=n+1:=om;obtain⟨ao,gl,gc,rfl⟩:=zbM a.lastOwn;obtain⟨i1,bK,bS,bq,bT⟩:=Zn Tryz.infoIs;have S9:=a.ext ((Xe wr).alloc (cl #[V ao gl gc] 22));have p3:=(a.box 3 _ rfl).1;go_wp2_with (at_builtin;refine wpList_append_lies _ rfl _ _ 23 rfl (c+1) 22 i1 (V O 0 0) 1 24 underlying23 bK bS bq bT rfl dc vG gv.length gv rfl (S9.pen.own 3 _ _ _ rfl) ⟨wr.heap.size,0,O⟩ 1 1 [V ao gl gc] rfl rfl (JC _ _ _) (by simp[Value.oneCell']) om (by have:=ae.out;unfold maxLen;omega) (by have:=ae.out;omega) S9.le (wr.heap.size+1) sp ?_)
       intro g3 ap w3 Y F S au;obtain⟨q1,aP⟩:=S9.far (k:=3) rfl F (j:=3) rfl;have A:=S9.field (k:=3) rfl F Y (S.imp id (fun e=>by rw[e];simp));rw[znS ae.out]at A;go_wp2_with fail
       generalize World.setCell _ _ _=K at *;generalize (V (E (Xd g3 0 O)) (gv.length+1) ap:Value)=aQ at *;have ad:Sm (c+1) L c Q K s b (zen vM N J aQ vS vR m h l (gv ++ [V ao gl gc]) t B) (zd2 (gv ++ [V ao gl gc]) (q ++ [x])):=A;clear A q1 aP au S F Y S9 p3 a;have bI:Hid ((gv ++ [(V ao gl gc:Value)]).length=(q ++ [x]).length):=by rw[Hid,zM,zM,ae.out];rfl
       have bY:(q ++ [x]).length=q.length+1:=sp;generalize gv ++ [V ao gl gc]=aC at *;have ak:Hid ((ivs t).length<=3):=by rw[Hid,zep,ah.out.s];omega
       have bj:Hid ((ivs B).length<=3):=by rw[Hid,zep,ah.out.r];omega
       have b8:=ze9 s b 5 om;have a8:=zfa s b j;have aA:=zf (fun W f=>C.out W b 5 f j om om);generalize fv s b 5=x8 at *;generalize fa s b=c8 at *;have b9:=ze9 s c8 31 om;have a9:=zfa s c8 a8;have bz:=zf (fun W f=>C.out W c8 31 f a8 om om);generalize fv s c8 31=x9 at *;generalize fa s c8=c9 at *;have bA:=zf (ah.out.more HZ.out.1 HZ.out.2 (sgF_is x8) b9);have ay:=zf (fun W=>zo0 W x8 b8);generalize sgF x8=sg at *;generalize q ++ [x]=b0 at *;clear ah ae HZ;have i5:(x8:Int)<5:=om;have i:=ad.ext (Xe K).drew;have p4:=(i.box 4 _ rfl).1;have al:=ad.ext (((Xe K).alloc (cl #[it Xb 0,it Xb 0,it Xb 0,it Xb 1,it Xb 2] 3)).drew);have bU:=(al.box 4 _ rfl).1;have b6:=i.le;have aZ:(K.alloc (cl #[it Xb 0,it Xb 0,it Xb 0,it Xb 1,it Xb 2] 3)).drew.cell? (Xd K.heap.size x8 O)=E (it Xb sg):=ay.out K;have bi:¬(K.heap.size=L):=by have h1:=az.out;have h2:c+1<=K.heap.size:=b6;omega
       clear ad b6;go_cut [8] (fun kv wc=>kv=it Xb (k:Nat)/\∃aT,Sm (c+1) L c Q wc s c8 (zen vM N J aQ aT vR m h l aC (t ++ [sg]) B) (zd2 aC b0))
       case first=>
        go_region_law (first|(have R:=ai.le;refine zbZ _ rfl (.tmp 76) (.tmp 82) 22 rfl (c+1) 3 i0 (it Xb 0) 1 8 underlying22 X Z a0 aa rfl dc vS (ivs t).length (ivs t) rfl (ai.pen.own 4 _ _ _ rfl) ⟨P.heap.size+1,0,O⟩ 1 1 [it Xb sg] rfl rfl bN (by simp[Value.oneCell']) om (by have:=ak.out;unfold maxLen;omega) (by have:=ak.out;omega) R (P.heap.size+1+1) sp ?_;intro g2 an w2 I g D ar;obtain⟨q0,aw⟩:=ai.far (k:=4) rfl g (j:=4) rfl)|(have R:=aj.le;refine zbZ _ rfl (.tmp 76) (.tmp 82) 22 rfl (c+1) 3 i0 (it Xb 0) 1 8 underlying22 X Z a0 aa rfl dc vS (ivs t).length (ivs t) rfl (aj.pen.own 4 _ _ _ rfl) ⟨P.heap.size,0,O⟩ 1 1 [it Xb sg] rfl rfl (JC _ _ _) (by simp[Value.oneCell']) om (by have:=ak.out;unfold maxLen;omega) (by have:=ak.out;omega) R (P.heap.size+1) sp ?_;intro g2 an w2 I g D ar;obtain⟨q0,aw⟩:=aj.far (k:=4) rfl g (j:=4) rfl)|(go_simp;go_at_call 27;refine(aA.out _ (by with_reducible exact i.fd)).mono ?_;rintro e P ⟨rfl,aF,av⟩;have SK:=i.next aF a8 av;have pK:=(SK.box 4 _ rfl).1;have aY:=SK.ext ((Xe P).alloc (cl #[it Xb 0,it Xb 0,it Xb 0,it Xb 1,it Xb 2] 3));have cd:=(aY.box 4 _ rfl).1;have bC:=ay.out P;have ai:=aY.ext ((Xe _).alloc (cl #[it Xb sg] 3));have pJ:=(ai.box 4 _ rfl).1;have bN:=zq2 P (cl #[it Xb 0,it Xb 0,it Xb 0,it Xb 1,it Xb 2] 3) (it Xb sg) 3;go_wp2_with fail)|(go_simp;go_at_call 27;refine(aA.out _ (by with_reducible exact al.fd)).mono ?_;rintro e P ⟨rfl,aF,av⟩;have SK:=al.next aF a8 av;have pK:=(SK.box 4 _ rfl).1;have bC:=av.cell (p:=(Xd K.heap.size x8 O)) bi aZ;have aj:=SK.ext ((Xe _).alloc (cl #[it Xb sg] 3));have pJ:=(aj.box 4 _ rfl).1;go_wp2_with fail))
        all_goals first|(have r:=ai.field (k:=4) rfl g I (D.imp id (fun e=>by rw[e];simp)))|(have r:=aj.field (k:=4) rfl g I (D.imp id (fun e=>by rw[e];simp)))
        all_goals
         rw[zeo]at r;go_wp2_with fail
         go_meet
         exact⟨rfl,_,r⟩
       case rest=>
        obtain⟨rfl,aT,ab⟩:=hcut;clear i al p4 bU aZ bi ay i5 aA ak;obtain⟨k',rfl⟩:∃k',k=k'+1:=⟨k-1,om⟩;have i:=ab.ext (Xe wc).drew;have p5:=(i.box 5 _ rfl).1;have ci:IntKind.i64.wrap ((x9:Int)-6)=(x9:Int)-6:=wrap_small _ om om;clear ab;go_wp2_with fail
        go_region_law (first|(have R:=o.le;refine zbZ _ rfl (.tmp 86) (.tmp 90) 22 rfl (c+1) 3 i0 (it Xb 0) 1 8 underlying22 X Z a0 aa rfl dc vR (ivs B).length (ivs B) rfl (o.pen.own 5 _ _ _ rfl) ⟨wA.heap.size,0,O⟩ 1 1 [it Xb ((x9:Int)-6)] rfl rfl (JC _ _ _) (by simp[Value.oneCell']) om (by have:=bj.out;unfold maxLen;omega) (by have:=bj.out;omega) R (wA.heap.size+1) sp ?_;intro g2 an w2 I g D ar;obtain⟨q0,aw⟩:=o.far (k:=5) rfl g (j:=5) rfl)|(go_simp;go_at_call 27;refine(bz.out _ (by exact i.fd)).mono ?_;rintro e wA ⟨rfl,aE,aO⟩;have SA:=i.next aE a9 aO;have pA:=(SA.box 5 _ rfl).1;have o:=SA.ext ((Xe wA).alloc (cl #[it Xb ((x9:Int)-6)] 3));have pB:=(o.box 5 _ rfl).1;go_wp2_with fail))
        all_goals
         have r:=o.field (k:=5) rfl g I (D.imp id (fun e=>by rw[e];simp));rw[zeo]at r;go_wp2_with fail
         go_roundw
        all_goals first|exact⟨k',c9,aQ,aT,_,aC,b0,_,_,by go_num,om,bI,bA,r⟩|(simp[intOf];done)|(simp[intOf];omega)
    ·obtain rfl:k=0:=om;obtain⟨bF,bL,_⟩:=aB.out;have M:=(a.low.block d om).trans bF;have r0:=c_ 0 M;have r1:=c_ 1 M;have r2:=c_ 2 M;have bV:=c_ 3 M;have r4:=c_ 4 M;have r5:=c_ 5 M;have U:∀z,wr.frozen? (Xd d z O)=false:=by intro z;simp[World.frozen?,M]
     have z0:=U 0;have z1:=U 1;have z2:=U 2;have z3:=U 3;have z4:=U 4;have z5:=U 5;obtain⟨aM,lM,cM,rfl⟩:=zbM (a.pen.own 0 _ _ _ rfl);obtain⟨aL,lL,cL,rfl⟩:=zbM (a.pen.own 1 _ _ _ rfl);obtain⟨aH,lH,cH,rfl⟩:=zbM (a.pen.own 2 _ _ _ rfl);obtain⟨aG,lG,cG,rfl⟩:=zbM (a.pen.own 3 _ _ _ rfl);obtain⟨aS,lS,cS,rfl⟩:=zbM (a.pen.own 4 _ _ _ rfl);obtain⟨aR,lR,cR,rfl⟩:=zbM (a.pen.own 5 _ _ _ rfl);have aq:Wr (fun k=>k=d) wr ((((((wr.setCell (Xd d 0 O) (V aM lM cM)).setCell (Xd d 1 O) (V aL lL cL)).setCell (Xd d 2 O) (V aH lH cH)).setCell (Xd d 3 O) (V aG lG cG)).setCell (Xd d 4 O) (V aS lS cS)).setCell (Xd d 5 O) (V aR lR cR)):=((((((Xi (fun k=>k=d) wr).setCell (p:=(Xd d 0 O)) rfl _).setCell (p:=(Xd d 1 O)) rfl _).setCell (p:=(Xd d 2 O)) rfl _).setCell (p:=(Xd d 3 O)) rfl _).setCell (p:=(Xd d 4 O)) rfl _).setCell (p:=(Xd d 5 O)) rfl _;have bb:=a.pen.same aq.size (fun bB f bM=>aq.block bB bM (by have:=az.out;omega));have ba:Below d w _:=(bL.trans (a.low.mono om)).trans (aq.below (by have:=a.le;have:=az.out;omega) (by intro k hk;omega));have aX:=zf (Xc bb ba);clear bb ba aq;have p0:=(a.box 0 _ rfl).1;have p1:=(a.box 1 _ rfl).1;have p2:=(a.box 2 _ rfl).1;have p3:=(a.box 3 _ rfl).1;have p4:=(a.box 4 _ rfl).1;have p5:=(a.box 5 _ rfl).1;clear U M;go_wp2_with fail
     exact zH (v:=ag #[V aM lM cM,V aL lL cL,V aH lH cH,V aG lG cG,V aS lS cS,V aR lR cR]) (by simp[results,results8,go_sem,r0,r1,r2,bV,r4,r5]) rfl ⟨_,n,_,_,_,_,_,_,m,h,l,gv,q,t,B,rfl,bR,bt.out,ah.out,om,ae.out,aX.out.1,by rw[bJ];exact aX.out.2⟩
