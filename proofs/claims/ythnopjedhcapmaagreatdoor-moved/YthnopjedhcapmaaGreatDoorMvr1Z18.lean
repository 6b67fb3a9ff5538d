import Derived.Test.YthnopjedhcapmaaGreatDoorMvr1Z5
open Option renaming none->O,some->E
open Go.Value renaming slice->V,string->gS,int->it,agg->ag
open Go.Obj renaming cells->cl
open Go renaming World->H
open Go.Proofs.Tryz renaming prog->pg
open Go.Proofs.Tryz
open Go.Ending renaming returned->Xa
open Go.IntKind renaming i64->Xb
open Go.Addr renaming mk->Xd
set_option linter.unusedSimpArgs false
set_option linter.unusedVariables false
set_option maxHeartbeats 2000000
set_option maxRecDepth 100000
namespace Go.Proofs.YthnopjedhcapmaaGreatDoor
open Go.RowKit
variable {w:H}
theorem ze9(s:ByteArray)(a n:Nat)(b:0<n):fv s a n<n:=by
 unfold fv;split
 ·exact Z0 _ b
 ·exact b
theorem zfa(s:ByteArray)(a:Nat)(h:a<=s.size):fa s a<=s.size:=by
 unfold fa;split
 ·omega
 ·exact h
theorem wrap_small(z:Int)(h1:-1000<=z)(h2:z<=1000):IntKind.i64.wrap z=z:=by
 unfold IntKind.wrap;simp only[IntKind.bits,IntKind.signed,zaT];split
 ·rename_i h
  have:=jU h;omega
 ·rename_i h
  have a:¬(z%2^64>=2^(64-1)):=fun e=>h (zbA e)
  omega
def sixNil:List (Value×Nat×List Value):= [(V_,3,[]),(V_,3,[]),(V_,3,[]),(V_,22,[]),(V_,3,[]),(V_,3,[])]
theorem zgP:∀r∈sixNil,r.1=V_/\r.2.2= []:=by
 intro r a;simp only[sixNil,zI,zY,Zp]at a;rcases a with rfl|rfl|rfl|rfl|rfl|rfl<;>exact⟨rfl,rfl⟩
def zen (vM vL vH vG vS vR:Value)(mx lo hi:L_)(gv:List Value)(ss rs:L_):List (Value×Nat×List Value):= [(vM,3,ivs mx),(vL,3,ivs lo),(vH,3,ivs hi),(vG,22,gv),(vS,3,ivs ss),(vR,3,ivs rs)]
theorem zeo(zs:L_)(z:Int):ivs zs ++ [i_ z]=ivs (zs ++ [z]):=by simp[ivs]
theorem zep(zs:L_):(ivs zs).length=zs.length:=by simp[ivs]
structure zhI (i:Nat)(mx lo hi:L_):Prop where
 m:mx.length=i
 l:lo.length=i
 h:hi.length=i
 bm:∀z∈mx,z.natAbs<=6
 bl:∀z∈lo,z.natAbs<=99
 bh:∀z∈hi,z.natAbs<=99
 w:∀r∈lo.zip hi,-1<=r.2-r.1/\r.2-r.1<=5
theorem zcF{a:Type}{P:a->Prop}{l:List a}{x:a}(h:∀z∈l,P z)(b:P x):∀z∈l ++ [x],P z:=by
 intro z a;rcases zU.1 a with a|a
 ·exact h z a
 ·rw[qg.1 a];exact b
theorem zhI.more{i:Nat}{mx lo hi:L_}(h:zhI i mx lo hi)(a b c d:Nat)(e:a<11)(hb:b<7)(f:c<6)(g:d<16):zhI (i+1) (mx ++ [(a:Int)-4]) (lo ++ [(b:Int)-3]) (hi ++ [(b:Int)-3+c-(d/15:Nat)]):=by
 refine⟨by simp[h.m],by simp[h.l],by simp[h.h],zcF h.bm om,zcF h.bl om,zcF h.bh om,?_⟩;rw[List.zip_append (by rw[h.l,h.h])];exact zcF h.w (by show -1<=((b:Int)-3+c-(d/15:Nat))-((b:Int)-3)/\_<=(5:Int);omega)
theorem Sm.begin{w1:H}{b:Nat}{s:ByteArray}{a:Nat}(c:Zh w1 b (gS s) (i_ (a:Nat)))(e:a<=s.size)(hg:w.heap.size<=b)(d:b_ w w1)(t:TypeId):
 Sm (w1.heap.size+1) b w1.heap.size w (w1.alloc (cl #[V_,V_,V_,V_,V_,V_] t)) s a sixNil []:=by
 have b:=c.2.2.2.2;have g:=d.size;have h:=qR w1 (cl #[V_,V_,V_,V_,V_,V_] t);refine⟨⟨hg,om,om,om,om⟩,sp,c.alloc _,e,fun k r b=>?_,⟨fun k v t c b=>?_,fun j k r q f b _ c e=>?_⟩,d.trans ((qf _ _).alloc g _)⟩
 ·have c:=(zgP r (zx b)).1;have d:k<6:=(zo.1 b).1;rw[c];refine⟨(ze _ _ k _ _ _ h).trans ?_,World.frozen?_alloc_at _ _ _ _ rfl⟩;have:k=0\/k=1\/k=2\/k=3\/k=4\/k=5:=om;rcases this with rfl|rfl|rfl|rfl|rfl|rfl<;>rfl
 ·rw[ZR]at b;obtain⟨c,d⟩:=zgP _ (zx b);simp only at c d;subst c d;exact zaf _ _ _ _
 ·rw[ZR]at f;rw[(zgP _ (zx f)).1]at e;cases e
def zd2 (gv:List Value)(gs:List (L_)):List (Value×Nat×List Value):=(gv.zip gs).map fun p=>(p.1,3,ivs p.2)
theorem znS{gv:List Value}{a:List (L_)}(h:gv.length=a.length)(v:Value)(zs:L_):zd2 gv a ++ [(v,3,ivs zs)]=zd2 (gv ++ [v]) (a ++ [zs]):=by
 unfold zd2;rw[List.zip_append h,Z6];rfl
structure SecP (m:Nat)(gs:List (L_))(ss rs:L_):Prop where
 s:ss.length=gs.length
 r:rs.length=gs.length
 bg:∀g∈gs,g.length=m/\∀z∈g,z.natAbs<=99
 bs:∀k∈ss,0<=k/\k<=2
 br:∀z∈rs,z.natAbs<=99
theorem SecP.more{m:Nat}{a:List (L_)}{ss rs:L_}(h:SecP m a ss rs){zs:L_}(b:zs.length=m)(hb:∀z∈zs,z.natAbs<=99){sg:Int}(hs:0<=sg/\sg<=2){x:Nat}(c:x<31):SecP m (a ++ [zs]) (ss ++ [sg]) (rs ++ [(x:Int)-6]):=
 ⟨by simp[h.s],by simp[h.r],zcF h.bg ⟨b,hb⟩,zcF h.bs hs,zcF h.br om⟩
theorem Sm.lastOwn{B c d:Nat}{w0:H}{s:ByteArray}{a:Nat}{l b:List (Value×Nat×List Value)}{t:Nat}{v:Value}{xs:List Value}(h:Sm B c d w0 w s a l (b ++ [(v,t,xs)])):w.ownsRow B t 1 v xs.length xs:=by
 refine h.pen.own (l++b).length v t xs ?_;rw[<-Zl,zG (zh _),Qn];rfl
theorem zbM{B t n:Nat}{v:Value}{xs:List Value}(h:w.ownsRow B t 1 v n xs):∃a l c,v=V a l c:=by
 obtain⟨_,a|⟨_,_,_,b,_⟩⟩:=h;·exact⟨_,_,_,a.1⟩
 ·exact⟨_,_,_,b⟩
theorem Tryz.infoIs:(Tryz.prog.info? 22).map (fun i=>(i.zero,i.size,i.bytes))=E (E (V_),1,24):=kr
theorem zq2(w:H)(o:Obj)(v:Value)(t:TypeId):∀(j:Nat) (u:Value),[v][j]? =E u->((w.alloc o).alloc (cl #[v] t)).cell? ((⟨w.heap.size+1,0,O⟩:Addr).add j)=E u:=by
 have e:(w.alloc o).heap.size=w.heap.size+1:=sp;rw[<-e];exact JC _ _ _
def SmallR (w:H)(e:Ending)(w':H):Prop:=
 ∃(B n:Nat) (vM vL vH vG vS vR:Value) (mx lo hi:L_) (gv:List Value) (gs:List (L_)) (ss rs:L_),e=Xa (ag #[vM,vL,vH,vG,vS,vR])/\n<3/\zhI (n+1) mx lo hi/\SecP (n+1) gs ss rs/\gs.length<=3/\gv.length=gs.length/\Pen B w' (zen vM vL vH vG vS vR mx lo hi gv ss rs++zd2 gv gs)/\Below w.heap.size w w'
def sgF (x:Nat):Int:=if x<3 then 0 else if x=3 then 1 else 2
theorem sgF_is(x:Nat):0<=sgF x/\sgF x<=2:=by
 unfold sgF;split
 ·omega
 ·split<;>omega
theorem zo0(w:H)(x:Nat)(h:x<5):(w.alloc (cl #[i_ 0,i_ 0,i_ 0,i_ 1,i_ 2] 3)).cell? (Xd w.heap.size x O)=E (i_ (sgF x)):=by
 refine(ze _ _ x _ _ _ (qR w _)).trans ?_;have:x=0\/x=1\/x=2\/x=3\/x=4:=om;rcases this with rfl|rfl|rfl|rfl|rfl<;>rfl
theorem zo1(s:ByteArray)(w:H)(hs:s.size<=9223372036854775807):
 Calls pg 4 #[gS s] w fun e w'=>SmallR w e w':=by
 obtain⟨i0,U,Y,Z,a0⟩:=Zn T.Tryz.infoInt;have B:=zf (fun(W:H) (b n:Nat) (d:Zh W (w.heap.size+1) (gS s) (it Xb (b:Nat))) (i:b<=s.size) (hn:0<n) (bN:n<=1000)=>zqv s (w.heap.size+1) b n W d hs i hn bN);go_enter func4,ntmps4
 go_wp2_with fail
 refine(B.out _ 0 3 (Zh.new1 _ _ _ _ _) (qo _) om om).mono ?_;rintro e w1 ⟨rfl,bc,bj⟩;have aI:Below (w.alloc (cl #[V O 0 0,V O 0 0,V O 0 0,V O 0 0,V O 0 0,V O 0 0] 25)).heap.size (w.alloc (cl #[V O 0 0,V O 0 0,V O 0 0,V O 0 0,V O 0 0,V O 0 0] 25)) w1:=((qf _ _).alloc (zh _) _).trans (bj.below sp (by intro k hk;simp;omega));have aA:Hid ((w.alloc (cl #[V O 0 0,V O 0 0,V O 0 0,V O 0 0,V O 0 0,V O 0 0] 25)).heap[w.heap.size]? =E (cl #[V O 0 0,V O 0 0,V O 0 0,V O 0 0,V O 0 0,V O 0 0] 25)/\Below w.heap.size w (w.alloc (cl #[V O 0 0,V O 0 0,V O 0 0,V O 0 0,V O 0 0,V O 0 0] 25))/\(w.alloc (cl #[V O 0 0,V O 0 0,V O 0 0,V O 0 0,V O 0 0,V O 0 0] 25)).heap.size=w.heap.size+1):=⟨qR w _,(qf _ w).alloc (zh _) _,sp⟩;have bQ:=ze9 s 0 3 om;have bD:=zfa s 0 (qo _);generalize fv s 0 3=n at *;generalize fa s 0=a1 at *;clear bj;generalize w.alloc (cl #[V O 0 0,V O 0 0,V O 0 0,V O 0 0,V O 0 0,V O 0 0] 25)=P at aI aA;have aC:=Sm.begin bc bD (by have:=aA.out.2.2;omega) aI 25;clear bc aI;go_wp2_with fail
 generalize World.alloc _ _=wB at *;generalize w1.heap.size=c at *;have ay:=zf aC.lt;generalize bY:w.heap.size+1=K at *;generalize bI:w.heap.size=gr at *;go_loopw [6] (fun iv wr=>∃(x b:Nat) (vM M I:Value) (l g j:List Int),iv=it Xb (x:Nat)/\x<=n+1/\Hid (zhI x l g j)/\Sm (c+1) K c P wr s b (zen vM M I (V O 0 0) (V O 0 0) (V O 0 0) l g j [] [] []) []) (fun iv _=>(n+1)-(intOf iv).toNat)
 case atStart=>exact⟨0,a1,_,_,_,[],[],[],rfl,om,⟨rfl,rfl,rfl,sp,sp,sp,sp⟩,aC⟩
 case round=>
  obtain⟨x,b,vM,M,I,l,g,j,rfl,_,HF,a⟩:=hrel;have i:=a.sz;by_cases bZ:x<n+1
  ·have b1:=ze9 s b 11 om;have a2:=zfa s b i;have aT:=zf (fun W d=>B.out W b 11 d i om om);generalize fv s b 11=x1 at *;generalize fa s b=c2 at *;have b2:=ze9 s c2 7 om;have a3:=zfa s c2 a2;have aU:=zf (fun W d=>B.out W c2 7 d a2 om om);generalize fv s c2 7=t at *;generalize fa s c2=c3 at *;have b3:=ze9 s c3 6 om;have a4:=zfa s c3 a3;have bu:=zf (fun W d=>B.out W c3 6 d a3 om om);generalize fv s c3 6=x3 at *;generalize fa s c3=c4 at *;have b4:=ze9 s c4 16 om;have a5:=zfa s c4 a4;have bv:=zf (fun W d=>B.out W c4 16 d a4 om om);generalize fv s c4 16=x4 at *;generalize fa s c4=c5 at *;have SD:=a.ext (Xe wr).drew;have p0:=(SD.box 0 _ rfl).1;have aJ:Hid ((ivs l).length=x):=by rw[Hid,zep];exact HF.out.m
   have bV:IntKind.i64.wrap ((x1:Int)-4)=(x1:Int)-4:=wrap_small _ om om;go_wp2_with fail
   go_cut [6] (fun iv wc=>iv=it Xb (x:Nat)/\∃aw,Sm (c+1) K c P wc s c2 (zen aw M I (V O 0 0) (V O 0 0) (V O 0 0) (l ++ [(x1:Int)-4]) g j [] [] []) [])
   case first=>
    go_region_law (first|(have Q:=m.le;refine zbZ _ rfl (.tmp 23) (.tmp 27) 22 rfl (c+1) 3 i0 (it Xb 0) 1 8 underlying22 U Y Z a0 rfl dc vM (ivs l).length (ivs l) rfl (m.pen.own 0 _ _ _ rfl) ⟨wA.heap.size,0,O⟩ 1 1 [it Xb ((x1:Int)-4)] rfl rfl (JC _ _ _) (by simp[Value.oneCell']) om (by have:=aJ.out;unfold maxLen;omega) (by have:=aJ.out;omega) m.le (wA.heap.size+1) sp ?_;intro g2 al w2 F f C aq;obtain⟨q0,av⟩:=m.far (k:=0) rfl f (j:=0) rfl)|(go_simp;go_at_call 14;refine(aT.out _ (by exact SD.fd)).mono ?_;rintro e wA ⟨rfl,aD,aN⟩;have SA:=SD.next aD a2 aN;have pA:=(SA.box 0 _ rfl).1;have m:=SA.ext ((Xe wA).alloc (cl #[it Xb ((x1:Int)-4)] 3));have pB:=(m.box 0 _ rfl).1;go_wp2_with fail))
    all_goals
     have q:=m.field (k:=0) rfl f F (C.imp id (fun e=>by rw[e];simp));rw[zeo]at q;go_wp2_with fail
     go_meet
     exact⟨rfl,_,q⟩
   case rest=>
    obtain⟨rfl,aw,aa⟩:=hcut;clear a SD p0 aJ bV aT;have wr2:IntKind.i64.wrap ((t:Int)-3)=(t:Int)-3:=wrap_small _ om om;go_wp2_with fail
    refine(aU.out _ aa.fd).mono ?_;rintro e wC ⟨rfl,bf,bo⟩;have SC:=aa.next bf a3 bo;have pC:=(SC.box 1 _ rfl).1;have SE:=SC.ext ((Xe wC).alloc (cl #[it Xb ((t:Int)-3)] 3));have aF:Hid ((ivs g).length=x):=by rw[Hid,zep];exact HF.out.l
    clear aa bf bo;go_wp2_with (at_builtin;refine wpList_append_lies _ rfl _ _ 22 rfl (c+1) 3 i0 (it Xb 0) 1 8 underlying22 U Y Z a0 rfl dc M (ivs g).length (ivs g) rfl (SE.pen.own 1 _ _ _ rfl) ⟨wC.heap.size,0,O⟩ 1 1 [it Xb ((t:Int)-3)] rfl rfl (JC _ _ _) (by simp[Value.oneCell']) om (by have:=aF.out;unfold maxLen;omega) (by have:=aF.out;omega) SE.le (wC.heap.size+1) sp ?_)
    intro g3 an w3 X D R ar;obtain⟨q1,aO⟩:=SE.far (k:=1) rfl D (j:=1) rfl;have z:=SE.field (k:=1) rfl D X (R.imp id (fun e=>by rw[e];simp));rw[zeo]at z;go_wp2_with fail
    generalize World.setCell _ _ _=w4 at *;generalize (V (E (Xd g3 0 O)) ((ivs g).length+1) an:Value)=br at *;have ab:Sm (c+1) K c P w4 s c3 (zen aw br I (V O 0 0) (V O 0 0) (V O 0 0) (l ++ [(x1:Int)-4]) (g ++ [(t:Int)-3]) j [] [] []) []:=z;clear z q1 aO ar R D X SE SC pC aF wr2 aU;have bg:Hid ((ivs j).length=x):=by rw[Hid,zep];exact HF.out.h
    have h:=ab.ext (Xe w4).drew;have p2:=(h.box 2 _ rfl).1;have bt:=zf (HF.out.more x1 t x3 x4 b1 b2 b3 b4);have cb:(x4:Int).tdiv 15=((x4/15:Nat):Int):=by rw[Int.tdiv_eq_ediv_of_nonneg om];rfl
    have bp:x4/15<=1:=om;generalize x4/15=ae at *;have cd:IntKind.i64.wrap ((t:Int)-3+(x3:Int))=(t:Int)-3+(x3:Int):=wrap_small _ om om;have ce:IntKind.i64.wrap (ae:Int)=(ae:Int):=wrap_small _ om om;have cf:IntKind.i64.wrap ((t:Int)-3+(x3:Int)-(ae:Int))=(t:Int)-3+(x3:Int)-(ae:Int):=wrap_small _ om om;clear ab;go_region_law (first|(have Q:=SJ.le;refine zbZ _ rfl (.tmp 40) (.tmp 49) 22 rfl (c+1) 3 i0 (it Xb 0) 1 8 underlying22 U Y Z a0 rfl dc I (ivs j).length (ivs j) rfl (SJ.pen.own 2 _ _ _ rfl) ⟨wH.heap.size,0,O⟩ 1 1 [it Xb ((t:Int)-3+(x3:Int)-(ae:Int))] rfl rfl (JC _ _ _) (by simp[Value.oneCell']) om (by have:=bg.out;unfold maxLen;omega) (by have:=bg.out;omega) SJ.le (wH.heap.size+1) sp ?_;intro g2 al w2 F f C aq;obtain⟨q0,av⟩:=SJ.far (k:=2) rfl f (j:=2) rfl)|(have hG:=SG.le;go_simp;go_at_call 14;refine(bv.out _ (by exact SG.fd)).mono ?_;rintro e wH ⟨rfl,bG,bP⟩;have SH:=SG.next bG a5 bP;have pH:=(SH.box 2 _ rfl).1;have SJ:=SH.ext ((Xe wH).alloc (cl #[it Xb ((t:Int)-3+(x3:Int)-(ae:Int))] 3));have pJ:=(SJ.box 2 _ rfl).1;go_wp2_with fail)|(go_simp;go_at_call 14;refine(bu.out _ (by exact h.fd)).mono ?_;rintro e wG ⟨rfl,bF,bO⟩;have SG:=h.next bF a4 bO;have pG:=(SG.box 2 _ rfl).1;go_wp2_with fail))
    all_goals
     have q:=SJ.field (k:=2) rfl f F (C.imp id (fun e=>by rw[e];simp));rw[zeo]at q;go_wp2_with fail
     go_roundw
    all_goals first|exact⟨x+1,c5,aw,br,_,_,_,_,by go_num,om,bt,q⟩|(simp[intOf];omega)
  ·obtain rfl:x=n+1:=om;have bs:=HF;clear HF aC;have b5:=ze9 s b 4 om;have a6:=zfa s b i;have aV:=zf (fun W d=>B.out W b 4 d i om om);generalize fv s b 4=x5 at *;generalize fa s b=c6 at *;go_wp2_with fail
   refine(aV.out _ a.fd).mono ?_;rintro e w5 ⟨rfl,bd,bl⟩;have S5:=a.next bd a6 bl;clear bd bl a aV;go_wp2_with fail
   go_loopw [8] (fun kv wr=>∃(k b:Nat) (vG vS vR:Value) (gv:List Value) (o:List (List Int)) (r A:List Int),kv=it Xb (k:Nat)/\k+o.length<=3/\Hid (gv.length=o.length)/\Hid (SecP (n+1) o r A)/\Sm (c+1) K c P wr s b (zen vM M I vG vS vR l g j gv r A) (zd2 gv o)) (fun kv _=>(intOf kv).toNat)
   case atStart=>exact⟨x5,c6,_,_,_,[],[],[],[],rfl,so,rfl,⟨rfl,rfl,sp,sp,sp⟩,S5⟩
   case round=>
    clear S5;obtain⟨k,b,vG,vS,vR,gv,o,r,A,rfl,_,ad,af,a⟩:=hrel;have i:=a.sz;by_cases c1:0<k
    ·have ca:(0:Int)<(k:Int):=om;have bb:=a.start 3;clear a;go_wp2_with fail
     go_loopw [9,10] (fun bC jv wr=>∃(y b:Nat) (vg:Value) (u:List Int),bC=vg/\jv=it Xb (y:Nat)/\y<=n+1/\Hid (u.length=y/\∀bW∈u,bW.natAbs<=99)/\Sm (c+1) K c P wr s b (zen vM M I vG vS vR l g j gv r A) (zd2 gv o ++ [(vg,3,ivs u)])) (fun _ jv _=>(n+1)-(intOf jv).toNat)
     case atStart=>exact⟨0,b,_,[],rfl,rfl,om,⟨rfl,sp⟩,bb⟩
     case round=>
      clear bb i;obtain⟨y,b,vg,u,aK,rfl,_,HZ,a⟩:=hrel;replace aK:=aK.symm
      subst aK;have i:=a.sz;by_cases c0:y<n+1
      ·have b7:=ze9 s b 13 om;have a7:=zfa s b i;have bw:=zf (fun W d=>B.out W b 13 d i om om);generalize fv s b 13=x7 at *;generalize fa s b=c7 at *;have cg:IntKind.i64.wrap ((x7:Int)-4)=(x7:Int)-4:=wrap_small _ om om;go_wp2_with fail
       refine(bw.out _ a.fd).mono ?_;rintro e w7 ⟨rfl,be,bn⟩;have S7:=a.next be a7 bn;have S8:=S7.ext ((Xe w7).alloc (cl #[it Xb ((x7:Int)-4)] 3));have bq:Hid ((ivs u).length=y):=by rw[Hid,zep];exact HZ.out.1
       clear a be bn;go_wp2_with (at_builtin;refine wpList_append_lies _ rfl _ _ 22 rfl (c+1) 3 i0 (it Xb 0) 1 8 underlying22 U Y Z a0 rfl dc vg (ivs u).length (ivs u) rfl S8.lastOwn ⟨w7.heap.size,0,O⟩ 1 1 [it Xb ((x7:Int)-4)] rfl rfl (JC _ _ _) (by simp[Value.oneCell']) om (by have:=bq.out;unfold maxLen;omega) (by have:=bq.out;omega) S8.le (w7.heap.size+1) sp ?_)
       intro g3 an w3 X D R ar;have z:=S8.last D X (R.imp id (fun e=>by rw[e];simp));rw[zeo]at z;go_wp2_with fail
       go_roundw
       case rel=>exact⟨y+1,c7,_,u ++ [(x7:Int)-4],rfl,by go_num,om,⟨by simp[HZ.out.1],zcF HZ.out.2 om⟩,z⟩
       case measure=>simp[intOf];omega
      ·obtain rfl:y=n+1:=om;obtain⟨ao,gl,gc,rfl⟩:=zbM a.lastOwn;obtain⟨i1,bJ,bR,bp,bS⟩:=Zn Tryz.infoIs;have S9:=a.ext ((Xe wr).alloc (cl #[V ao gl gc] 22));have p3:=(a.box 3 _ rfl).1;go_wp2_with (at_builtin;refine wpList_append_lies _ rfl _ _ 23 rfl (c+1) 22 i1 (V O 0 0) 1 24 underlying23 bJ bR bp bS rfl dc vG gv.length gv rfl (S9.pen.own 3 _ _ _ rfl) ⟨wr.heap.size,0,O⟩ 1 1 [V ao gl gc] rfl rfl (JC _ _ _) (by simp[Value.oneCell']) om (by have:=ad.out;unfold maxLen;omega) (by have:=ad.out;omega) S9.le (wr.heap.size+1) sp ?_)
       intro g3 an w3 X D R ar;obtain⟨q1,aO⟩:=S9.far (k:=3) rfl D (j:=3) rfl;have z:=S9.field (k:=3) rfl D X (R.imp id (fun e=>by rw[e];simp));rw[znS ad.out]at z;go_wp2_with fail
       generalize World.setCell _ _ _=J at *;generalize (V (E (Xd g3 0 O)) (gv.length+1) an:Value)=aP at *;have ab:Sm (c+1) K c P J s b (zen vM M I aP vS vR l g j (gv ++ [V ao gl gc]) r A) (zd2 (gv ++ [V ao gl gc]) (o ++ [u])):=z;clear z q1 aO ar R D X S9 p3 a;have bH:Hid ((gv ++ [(V ao gl gc:Value)]).length=(o ++ [u]).length):=by rw[Hid,zM,zM,ad.out];rfl
       have bX:(o ++ [u]).length=o.length+1:=sp;generalize gv ++ [V ao gl gc]=aB at *;have aj:Hid ((ivs r).length<=3):=by rw[Hid,zep,af.out.s];omega
       have bi:Hid ((ivs A).length<=3):=by rw[Hid,zep,af.out.r];omega
       have b8:=ze9 s b 5 om;have a8:=zfa s b i;have az:=zf (fun W d=>B.out W b 5 d i om om);generalize fv s b 5=x8 at *;generalize fa s b=c8 at *;have b9:=ze9 s c8 31 om;have a9:=zfa s c8 a8;have bx:=zf (fun W d=>B.out W c8 31 d a8 om om);generalize fv s c8 31=x9 at *;generalize fa s c8=c9 at *;have bz:=zf (af.out.more HZ.out.1 HZ.out.2 (sgF_is x8) b9);have ax:=zf (fun W=>zo0 W x8 b8);generalize sgF x8=sg at *;generalize o ++ [u]=aZ at *;clear af ad HZ;have i5:(x8:Int)<5:=om;have h:=ab.ext (Xe J).drew;have p4:=(h.box 4 _ rfl).1;have ak:=ab.ext (((Xe J).alloc (cl #[it Xb 0,it Xb 0,it Xb 0,it Xb 1,it Xb 2] 3)).drew);have bT:=(ak.box 4 _ rfl).1;have b0:=h.le;have aY:(J.alloc (cl #[it Xb 0,it Xb 0,it Xb 0,it Xb 1,it Xb 2] 3)).drew.cell? (Xd J.heap.size x8 O)=E (it Xb sg):=ax.out J;have bh:¬(J.heap.size=K):=by have h1:=ay.out;have h2:c+1<=J.heap.size:=b0;omega
       clear ab b0;go_cut [8] (fun kv wc=>kv=it Xb (k:Nat)/\∃aQ,Sm (c+1) K c P wc s c8 (zen vM M I aP aQ vR l g j aB (r ++ [sg]) A) (zd2 aB aZ))
       case first=>
        go_region_law (first|(have Q:=ah.le;refine zbZ _ rfl (.tmp 76) (.tmp 82) 22 rfl (c+1) 3 i0 (it Xb 0) 1 8 underlying22 U Y Z a0 rfl dc vS (ivs r).length (ivs r) rfl (ah.pen.own 4 _ _ _ rfl) ⟨N.heap.size+1,0,O⟩ 1 1 [it Xb sg] rfl rfl bM (by simp[Value.oneCell']) om (by have:=aj.out;unfold maxLen;omega) (by have:=aj.out;omega) Q (N.heap.size+1+1) sp ?_;intro g2 al w2 F f C aq;obtain⟨q0,av⟩:=ah.far (k:=4) rfl f (j:=4) rfl)|(have Q:=ai.le;refine zbZ _ rfl (.tmp 76) (.tmp 82) 22 rfl (c+1) 3 i0 (it Xb 0) 1 8 underlying22 U Y Z a0 rfl dc vS (ivs r).length (ivs r) rfl (ai.pen.own 4 _ _ _ rfl) ⟨N.heap.size,0,O⟩ 1 1 [it Xb sg] rfl rfl (JC _ _ _) (by simp[Value.oneCell']) om (by have:=aj.out;unfold maxLen;omega) (by have:=aj.out;omega) Q (N.heap.size+1) sp ?_;intro g2 al w2 F f C aq;obtain⟨q0,av⟩:=ai.far (k:=4) rfl f (j:=4) rfl)|(go_simp;go_at_call 14;refine(az.out _ (by with_reducible exact h.fd)).mono ?_;rintro e N ⟨rfl,aE,au⟩;have SK:=h.next aE a8 au;have pK:=(SK.box 4 _ rfl).1;have aX:=SK.ext ((Xe N).alloc (cl #[it Xb 0,it Xb 0,it Xb 0,it Xb 1,it Xb 2] 3));have cc:=(aX.box 4 _ rfl).1;have bB:=ax.out N;have ah:=aX.ext ((Xe _).alloc (cl #[it Xb sg] 3));have pJ:=(ah.box 4 _ rfl).1;have bM:=zq2 N (cl #[it Xb 0,it Xb 0,it Xb 0,it Xb 1,it Xb 2] 3) (it Xb sg) 3;go_wp2_with fail)|(go_simp;go_at_call 14;refine(az.out _ (by with_reducible exact ak.fd)).mono ?_;rintro e N ⟨rfl,aE,au⟩;have SK:=ak.next aE a8 au;have pK:=(SK.box 4 _ rfl).1;have bB:=au.cell (p:=(Xd J.heap.size x8 O)) bh aY;have ai:=SK.ext ((Xe _).alloc (cl #[it Xb sg] 3));have pJ:=(ai.box 4 _ rfl).1;go_wp2_with fail))
        all_goals first|(have q:=ah.field (k:=4) rfl f F (C.imp id (fun e=>by rw[e];simp)))|(have q:=ai.field (k:=4) rfl f F (C.imp id (fun e=>by rw[e];simp)))
        all_goals
         rw[zeo]at q;go_wp2_with fail
         go_meet
         exact⟨rfl,_,q⟩
       case rest=>
        obtain⟨rfl,aQ,aa⟩:=hcut;clear h ak p4 bT aY bh ax i5 az aj;obtain⟨k',rfl⟩:∃k',k=k'+1:=⟨k-1,om⟩;have h:=aa.ext (Xe wc).drew;have p5:=(h.box 5 _ rfl).1;have ch:IntKind.i64.wrap ((x9:Int)-6)=(x9:Int)-6:=wrap_small _ om om;clear aa;go_wp2_with fail
        go_region_law (first|(have Q:=m.le;refine zbZ _ rfl (.tmp 86) (.tmp 90) 22 rfl (c+1) 3 i0 (it Xb 0) 1 8 underlying22 U Y Z a0 rfl dc vR (ivs A).length (ivs A) rfl (m.pen.own 5 _ _ _ rfl) ⟨wA.heap.size,0,O⟩ 1 1 [it Xb ((x9:Int)-6)] rfl rfl (JC _ _ _) (by simp[Value.oneCell']) om (by have:=bi.out;unfold maxLen;omega) (by have:=bi.out;omega) Q (wA.heap.size+1) sp ?_;intro g2 al w2 F f C aq;obtain⟨q0,av⟩:=m.far (k:=5) rfl f (j:=5) rfl)|(go_simp;go_at_call 14;refine(bx.out _ (by exact h.fd)).mono ?_;rintro e wA ⟨rfl,aD,aN⟩;have SA:=h.next aD a9 aN;have pA:=(SA.box 5 _ rfl).1;have m:=SA.ext ((Xe wA).alloc (cl #[it Xb ((x9:Int)-6)] 3));have pB:=(m.box 5 _ rfl).1;go_wp2_with fail))
        all_goals
         have q:=m.field (k:=5) rfl f F (C.imp id (fun e=>by rw[e];simp));rw[zeo]at q;go_wp2_with fail
         go_roundw
        all_goals first|exact⟨k',c9,aP,aQ,_,aB,aZ,_,_,by go_num,om,bH,bz,q⟩|(simp[intOf];done)|(simp[intOf];omega)
    ·obtain rfl:k=0:=om;obtain⟨bE,bK,_⟩:=aA.out;have L:=(a.low.block gr om).trans bE;have r0:=c_ 0 L;have r1:=c_ 1 L;have r2:=c_ 2 L;have bU:=c_ 3 L;have r4:=c_ 4 L;have r5:=c_ 5 L;have S:∀y,wr.frozen? (Xd gr y O)=false:=by intro y;simp[World.frozen?,L]
     have z0:=S 0;have z1:=S 1;have z2:=S 2;have z3:=S 3;have z4:=S 4;have z5:=S 5;obtain⟨aM,lM,cM,rfl⟩:=zbM (a.pen.own 0 _ _ _ rfl);obtain⟨aL,lL,cL,rfl⟩:=zbM (a.pen.own 1 _ _ _ rfl);obtain⟨aH,lH,cH,rfl⟩:=zbM (a.pen.own 2 _ _ _ rfl);obtain⟨aG,lG,cG,rfl⟩:=zbM (a.pen.own 3 _ _ _ rfl);obtain⟨aS,lS,cS,rfl⟩:=zbM (a.pen.own 4 _ _ _ rfl);obtain⟨aR,lR,cR,rfl⟩:=zbM (a.pen.own 5 _ _ _ rfl);have ap:Wr (fun k=>k=gr) wr ((((((wr.setCell (Xd gr 0 O) (V aM lM cM)).setCell (Xd gr 1 O) (V aL lL cL)).setCell (Xd gr 2 O) (V aH lH cH)).setCell (Xd gr 3 O) (V aG lG cG)).setCell (Xd gr 4 O) (V aS lS cS)).setCell (Xd gr 5 O) (V aR lR cR)):=((((((Xj (fun k=>k=gr) wr).setCell (p:=(Xd gr 0 O)) rfl _).setCell (p:=(Xd gr 1 O)) rfl _).setCell (p:=(Xd gr 2 O)) rfl _).setCell (p:=(Xd gr 3 O)) rfl _).setCell (p:=(Xd gr 4 O)) rfl _).setCell (p:=(Xd gr 5 O)) rfl _;have ba:=a.pen.same ap.size (fun bA d bL=>ap.block bA bL (by have:=ay.out;omega));have b6:Below gr w _:=(bK.trans (a.low.mono om)).trans (ap.below (by have:=a.le;have:=ay.out;omega) (by intro k hk;omega));have aW:=zf (Xc ba b6);clear ba b6 ap;have p0:=(a.box 0 _ rfl).1;have p1:=(a.box 1 _ rfl).1;have p2:=(a.box 2 _ rfl).1;have p3:=(a.box 3 _ rfl).1;have p4:=(a.box 4 _ rfl).1;have p5:=(a.box 5 _ rfl).1;clear S L;go_wp2_with fail
     exact zH (v:=ag #[V aM lM cM,V aL lL cL,V aH lH cH,V aG lG cG,V aS lS cS,V aR lR cR]) (by simp[results,results4,go_sem,r0,r1,r2,bU,r4,r5]) rfl ⟨_,n,_,_,_,_,_,_,l,g,j,gv,o,r,A,rfl,bQ,bs.out,af.out,om,ad.out,aW.out.1,by rw[bI];exact aW.out.2⟩
