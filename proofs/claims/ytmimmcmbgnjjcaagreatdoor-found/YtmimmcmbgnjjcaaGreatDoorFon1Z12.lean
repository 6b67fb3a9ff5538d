import Derived.Test.YtmimmcmbgnjjcaaGreatDoorFon1Z9
open Option renaming none->O,some->E
open Go.Value renaming slice->V,bool->G,string->gS,pointer->pn,int->it
open Go.Obj renaming cells->cl
open Go renaming World->H
open Go.Proofs.Tryz renaming prog->pg
open Go.Proofs.Tryz
open Go.Ending renaming returned->Xa
open Go.IntKind renaming i64->Xb
open Go.Addr renaming mk->Xd
set_option linter.unusedSimpArgs false
set_option linter.unusedVariables false
set_option maxHeartbeats 4000000
set_option maxRecDepth 100000
namespace Go.Proofs.YtmimmcmbgnjjcaaGreatDoor
variable {A d w w':H}{B a b c cap g n:Nat}{P:Program}{zs:List Int}
theorem zlQ(c:UInt8)(l r:List UInt8)(h:∀x∈l,x≠c):Lib.cut (l++c::r) [c]=(l,r,true):=by
 induction l with
 |nil=>exact zix c r
 |cons x l a=>rw[ZZ,zfJ (h x sp),a (fun y a=>h y (by simp[a]))]
theorem zoH(c:UInt8)(l:List UInt8)(h:∀x∈l,x≠c):Lib.cut l [c]=(l,[],false):=by
 induction l with
 |nil=>exact zqf c
 |cons x l a=>rw[zfJ (h x sp),a (fun y a=>h y (by simp[a]))]
theorem zmA(f:Nat):∀(g:Nat) (l:List UInt8),l.length<=f->l.length<=g->JA f l=JA g l:=by
 induction f with
 |zero=>
  intro g l h _;have:l= []:=Qk.1 om;rw[this,zbN,zbN]
 |succ f e=>
  intro g l h i;by_cases a:l= []
  ·rw[a,zbN,zbN]
  ·cases g with
   |zero=>exact absurd (Qk.1 om) a
   |succ g=>
    rw[JA,JA,zO a,zO a];have d:=zdk 10 l;by_cases b:(Lib.cut l [10]).2.2=true
    ·rw[zQ b]at d;rw[e g _ om om]
    ·have c:=zjU (by simpa using b);rw[c];simp only[zbN]
theorem znI(l r:List UInt8)(h:∀x∈l,x≠10):QW (l++10::r)=(l,true)::QW r:=by
 have a:=zlQ 10 l r h;unfold QW;rw[show(l++10::r).length=(l.length+r.length)+1 by simp;omega,JA,zO sp,a];rw[zmA (l.length+r.length) r.length r om om]
theorem zmB(f:Nat):∀(g:Nat) (l:List UInt8),l.length<f->l.length<g->zaD f l=zaD g l:=by
 induction f with
 |zero=>intro g l h;omega
 |succ f c=>
  intro g l h a;cases g with
  |zero=>omega
  |succ g=>
   rw[zaD,zaD];have b:=zdk 32 l;by_cases a:(Lib.cut l [32]).2.2=true
   ·rw[zQ a]at b;rw[zQ a,zQ a,c g _ om om]
   ·rw[zO a,zO a]
theorem zjj(l r:List UInt8)(h:∀x∈l,x≠32):Zb (l++32::r)=l::Zb r:=by
 have a:=zlQ 32 l r h;unfold Zb;rw[zaD,a];simp only[zbu];rw[zmB (l++32::r).length (r.length+1) r so om]
theorem zkA(l:List UInt8)(h:∀x∈l,x≠32):Zb l= [l]:=by
 unfold Zb;rw[zaD,zoH 32 l h];simp
theorem zkB{l:List UInt8}(h:Qm l=true):∀c∈l,c≠32/\c≠10:=by
 intro c b;have a:=zgB (Zi.1 h c b);constructor<;>(rintro rfl;simp at a)
theorem zgG(z:Int):∀c∈Lib.itoa z,c≠32/\c≠10:=by
 intro c a;unfold Lib.itoa at a;split at a
 ·rcases zI.1 a with rfl|a
  ·exact⟨dc,dc⟩
  ·exact zkB (zhY _) c a
 ·exact zkB (zhY _) c a
theorem zqI(z:Int)(h:z.natAbs<10^40):dOk (Lib.itoa z)=true:=by
 have b:=zbS 40 _ h om;have a:=zrH z.natAbs;unfold dOk T.okD;rw[(zhn z).1,zhY];simp only[Bool.and_true,Qj,Z9];exact⟨by intro e;rw[e]at a;simp at a,b⟩
theorem zrP(z:Int):T.wZ (Lib.itoa z)=z:=by
 unfold T.wZ;rw[(zhn z).1,(zhn z).2,zrL,zrM]
open Go.RowKit
theorem zqJ{z:Array Value}{k:Nat}(b:∀u∈z.toList,ZM u):∀u∈(madeCells z k).toList,ZM u:=by
 intro u a;simp[madeCells]at a;obtain⟨j,_,rfl⟩:=a;by_cases a:0<z.size
 ·have hm:j%z.size<z.size:=Z0 _ a;refine b _ ?_;rw[getElem!_pos z (j%z.size) hm];simp
 ·have a:z.size=0:=om;intro n e;have:z=#[]:=Array.eq_empty_of_size_eq_zero a;subst this;simp at e;cases e
theorem zcM{F:Fence}{c:Code}{Q:Exit->Act->H->Prop}{a:Act}{w:H}(h:c.wpIn F n P (fun e a w=>match e with|.normal=>Q .normal a w|_=>False) a w):c.wpIn F n P Q a w:=
 zbI h (fun e a w h=>by cases e with|normal=>exact h|_=>exact h.elim)
def TwoP (B:Nat)(w A3 AA:H)(a gpl q0:Nat)(wd:List UInt8)(qs:List Nat)(pt:Nat->Addr)(xs:List Nat)(own:Option Nat)(g cap:Nat)(y1 y2:Value):Prop:=
 Below B w AA/\Wr (fun x=>x=gpl\/own=E x) A3 AA/\
  (∀i fv,(QY q0::(qs.map ZA ++ [jP a,ZA (a+1)]))[i]? =E fv->AA.cell? (Xd g i O)=E fv)/\
  AA.cell? (Xd gpl 0 O)=E (V (E (Xd g 0 O)) (qs.length+1+2) cap)/\AA.cell? (Xd q0 0 O)=E (gS ⟨wd.toArray⟩)/\
  (∀j q,qs[j]? =E q->AA.cell? (Xd q 0 O)=E (pn (E (pt j))))/\AA.cell? (Xd a 0 O)=E y1/\AA.cell? ⟨a+1,0,O⟩=E y2/\
  B<=g/\(∀x∈gpl::q0::(qs++xs),g≠x)/\qs.length+3<=cap/\cap<=9223372036854775807
theorem ze5{h:H}{m:Nat}{c:List UInt8}{b:List Nat}{pt:Nat->Addr}{xs:List Nat}{i:Option Addr}{j:Nat}{e k:Value}(f:Pls B w A a m c b pt xs i j)(r:zn B A d)(l:d.heap.size=A.heap.size+1+1+1)(h1:d.cell? (Xd A.heap.size 0 O)=E e)(h2:d.cell? ⟨A.heap.size+1,0,O⟩=E k)(y:h.ownsRow B 327 1 (V (E (Xd g 0 O)) (b.length+1+2) cap) (b.length+1+2) (QY m::b.map ZA ++ [jP A.heap.size,ZA (A.heap.size+1)]))(hg:d.grownBy h (V i (b.length+1) j).ownBlock)(s:(V i (b.length+1) j).ownBlock=E g\/g=d.heap.size):
 h.cell? (Xd a 0 O)=E (V i (b.length+1) j)/\h.frozen? (Xd a 0 O)=false/\Hid (TwoP B w d (h.setCell (Xd a 0 O) (V (E (Xd g 0 O)) (b.length+1+2) cap)) A.heap.size a m c b pt xs (V i (b.length+1) j).ownBlock g cap e k):=by
 have c:=f.keep r (zh _);have q:∀{x:Nat},x∈a::m::(b++xs)->¬(V i (b.length+1) j).ownBlock=E x:=fun k e=>f.sep _ e _ k rfl
 have v:∀{x:Nat},A.heap.size<=x->¬(V i (b.length+1) j).ownBlock=E x:=fun k e=>by have:=(f.own.lt _ e).2;omega
 have l:Wr (fun x=>(V i (b.length+1) j).ownBlock=E x) d h:=⟨hg.os,hg.tape,hg.output,hg.size,fun o r e=>hg.block o r (fun r=>e r.symm)⟩;have M:=c.lt a sp;have u:∀x∈a::m::(b++xs),g≠x:=by
  intro x k;rcases s with e|e
  ·exact f.sep g e x k
  ·have:=c.lt x k;omega
 have k:=f.lt a sp;have t:=l.cell (p:=(Xd a 0 O)) (q sp) c.box;have D:Below B w h:=⟨hg.os.trans c.bel.os,hg.tape.trans c.bel.tape,hg.output.trans c.bel.output,zF c.bel.size hg.size,fun o k=>(hg.block o (by have:=c.bel.size;have:=f.le;omega) (fun e=>by have:=(f.own.lt o e.symm).1;omega)).trans (c.bel.block o k)⟩;have L:∀k fv,(QY m::(b.map ZA ++ [jP A.heap.size,ZA (A.heap.size+1)]))[k]? =E fv->h.cell? (Xd g k O)=E fv:=by
  intro k fv s;have r:=y.cells (g:=g) rfl k fv (by simpa using s);have e:(⟨g,0,O⟩:Addr).add k=⟨g,k,O⟩:=by
   unfold Addr.add;split
   ·rename_i z;rw[z]
   ·simp
  rw[e]at r;exact r
 obtain⟨F,J,K⟩:B<=g/\b.length+3<=cap/\cap<=9223372036854775807:=by
  obtain⟨_,h1|⟨_,_,_,z,I,_,_,C,r,_⟩⟩:=y;·exact absurd h1.1 sp
  ·simp only[qp,qN,Jg]at z;obtain⟨⟨rfl,_,_⟩,_,rfl⟩:=z;exact⟨I,om,by unfold maxLen at C;omega⟩
 have y:=u a sp;refine⟨t,?_,D.setCell (p:=(Xd a 0 O)) f.new.1 _,?_,fun k fv s=>?_,zN _ _ _ t,?_,fun z r t=>?_,?_,?_,F,u,J,K⟩
 ·have u:h.frozen? (Xd a 0 O)=d.frozen? (Xd a 0 O):=qw (w:=d) (l.block a M (q sp));exact u.trans c.fro
 ·exact Xq (T:=fun x=>x=a\/(V i (b.length+1) j).ownBlock=E x) (l.mono (fun o e=>Or.inr e)) (p:=(Xd a 0 O)) (Or.inl rfl) _
 ·rw[qj _ _ _ _ (by simpa using Qr y)];exact L k fv s
 ·rw[qj _ _ _ _ (by simpa using f.new.2.1)];exact l.cell (p:=(Xd m 0 O)) (q sp) c.q0c
 ·have hm:=zx t;rw[qj _ _ _ _ (by simpa using Qr (f.new.2.2.2 r hm).2)];exact l.cell (p:=(Xd r 0 O)) (q (by simp[hm])) (c.qsc z r t)
 ·rw[qj _ _ _ _ so];exact l.cell (p:=(Xd A.heap.size 0 O)) (v (zh _)) h1
 ·rw[qj _ _ _ _ so];exact l.cell (p:=⟨A.heap.size+1,0,O⟩) (v sp) h2
def zcN (W:H)(b:Nat):Prop:=¬qQ W b 85/\∀(o:Nat) (v:Value),W.cell? (Xd b o O)=E v->∀n,v≠it .u32 n
theorem zcN.of{k:Nat}(h:¬qQ w k 85)(a:qK w k):zcN w k:=⟨h,a.2⟩
theorem zmC{cs:Array Value}{t:TypeId}{a:Nat×Nat}(h:w.heap[g]? =E (cl cs t a))(c:t≠85)(b:∀v∈cs.toList,ZM v):zcN w g:= .of (fun a=>c (qQ.one ⟨_,_,h⟩ a)) (zE h b)
theorem zmD{o:Obj}(h:w.heap[g]? =E o)(ho:o.isCells=false):zcN w g:=by
 refine⟨fun⟨_,_,a⟩=>?_,fun p x c=>?_⟩
 ·rw[h]at a;cases a;cases ho
 ·obtain⟨_,a,b⟩:=cells_of_cell c;simp only at a;rw[h]at a;cases a;rw[ho]at b;cases b
theorem NatV.wrN{T:Nat->Prop}{v:Value}(h:NatV w v n)(e:Wr T w w')(m:∀k,T k->zcN w k):NatV w' v n:=by
 obtain⟨a,⟨b,c,i,f,g⟩,d⟩:=h;refine⟨a,⟨b,c,i,f,fun c=>?_⟩,d⟩;obtain⟨b,off,i,l,d⟩:=g c;have j:¬T b:=by
  intro f;have g:=ZC.2 c;exact(m b f).2 _ _ (d 0 g) _ rfl
 exact⟨b,off,i,zK l e.size,fun i a=>e.cell j (d i a)⟩
theorem zy.wrN{T:Nat->Prop}{x:Value}{z:Int}(h:zy w x z)(f:Wr T w w')(e:∀k,T k->zcN w k):zy w' x z:=by
 obtain⟨b,v,a,c,d⟩:=h;exact⟨b,v,a,c.wrN f e,d⟩
theorem Zo.wrN{U:Nat->Prop}{v:Value}(h:Zo w v zs)(b:Wr U w w')(a:∀k,U k->zcN w k):Zo w' v zs:=by
 obtain⟨f,c,d,e⟩:=h;exact⟨f,c,d.wr b (fun k c=>(a k c).1),fun i t z c d=>(e i t z c d).wrN b a⟩
def zaa (B:Nat)(W:H)(b:Nat):Prop:=B<=b/\((∃(x:Int) (fr:Nat×Nat),W.heap[b]? =E (cl #[it Xb x] 3 fr))\/∃(x:Bool) (fr:Nat×Nat),W.heap[b]? =E (cl #[G x] 4 fr))
def SeqQ (P:Program)(g:Nat)(lb:Array Value)(n:Nat)(Y:Nat->Array Value->H->Prop)(C:H->Prop):Prop:=
 ∀(l:Nat) (J:Nat->(Nat->Prop)->H->Prop) (Jx:Nat->H->Prop) (M0:Nat->Prop) (W:H),
  (∀k M A B,J k M A->zn W.heap.size A B->J k M B)->(∀k A B,Jx k A->zn W.heap.size A B->Jx k B)->
  (∀k M A B,J k M A->Wr (zaa W.heap.size A) A B->J k M B)->(∀k A B,Jx k A->Wr (zaa W.heap.size A) A B->Jx k B)->
  (∀k M A,J k M A->C A/\∀x,M x->x<A.heap.size/\zcN A x)->
  (∀k v M W1,k<n->Y k v W1->J k M W1->YieldAt Fence.wide 0 P l v W1 fun e W'=>
   (e=Xa (G true)/\Wr M W1 W'/\∃M',J (k+1) M' W'/\∀x,M' x->M x\/W1.heap.size<=x)\/(e=Xa (G false)/\Wr M W1 W'/\Jx k W'))->
  J 0 M0 W->
  Calls P g (#[.func (.yield l) #[] #[]]++lb) W fun e W'=>(∃v,e=Xa v)/\((∃M,J n M W')\/∃k,k<n/\Jx k W')
theorem Ja.own{a:Array Value}{Y:Nat->Array Value->H->Prop}{C:H->Prop}(h:Ja P g a n Y C):SeqQ P g a n Y C:=
 fun l J b c W d e _ _ a f i=>h l J b c W d e (fun k M A b=>⟨(a k M A b).1,fun x c=>((a k M A b).2 x c).1⟩) f i
theorem ze6{g:Operand}{ps:Array Tmp}{assign body:Code}{Q:Exit->Act->H->Prop}{a:Act}{w:H}{gf:Nat}{lb:Array Value}{N0:Nat}{Y:Nat->Array Value->H->Prop}{C:H->Prop}(hseq:SeqQ P gf lb N0 Y C)(hg:a.eval g= .func (.func gf) #[] lb)(eg:∀args w,(callFunc gf args).run P w= .ok (.enter gf args) w)(hps:∀k v W,Y k v W->v.size=ps.size)(I:Nat->(Nat->Prop)->H->Prop)(Ix:Code->Nat->H->Prop)(M0:Nat->Prop)(hI:∀k M A B,I k M A->zn w.heap.size A B->I k M B)(hIx:∀c k A B,Ix c k A->zn w.heap.size A B->Ix c k B)(hI2:∀k M A B,I k M A->Wr (zaa w.heap.size A) A B->I k M B)(hIx2:∀c k A B,Ix c k A->Wr (zaa w.heap.size A) A B->Ix c k B)(hC:∀k M A,I k M A->C A/\∀x,M x->x<A.heap.size/\zcN A x)(h0:I 0 M0 w)(hround:∀(l k:Nat) (v:Array Value) (M:Nat->Prop) (W:H),k<N0->Y k v W->I k M W->Zz P n w.heap.size M I Ix ps assign body a l k v W)(hdone:∀(D:Nat) (M:Nat->Prop) (W:H),D=w.heap.size->(∀x,M x->x<D\/D+2<=x)->I N0 M W->W.heap[D]? =E (.deferred (E []))->Q .normal { a with defers:={ target:= .collected D,args:=#[] } :: a.defers } W)(hstop:∀(D:Nat) (c:Code) (k:Nat) (W:H),w.heap.size<=D->k<N0->Ix c k W->W.heap[D]? =E (.deferred (E []))->c.wpIn Fence.wide n P Q { a with defers:={ target:= .collected D,args:=#[] } :: a.defers } W):
 (Code.rangeFunc g ps assign body).wpIn Fence.wide n P Q a w:=
 zkm (F:=zaa) (NN:=zcN) (fun _ _ _ h=>h.1) (fun _ _ _ _ h k=>⟨zF h k.1,k.2⟩) (fun _ _ _ h ho=>zmD h ho) hseq hg eg hps I Ix M0 hI hIx hI2 hIx2 hC h0 (fun l k v M W a b c=>(hround l k v M W a b c).wk) hdone hstop
theorem zk7(s:List UInt8)(hs:s.length<=2000)(d a n m:Nat)(f:Value)(zs:List Int)(w:H)(hb:Zh w d (V (E (Xd a 0 O)) n n) f)(h:n<=4)(g:m<n)(b:Whs w a zs)(i:zs.length=3*n):
 Calls pg 140 #[pn (E (Xd d 0 O)),gS ⟨s.toArray⟩,it Xb (m:Nat)] w fun e w'=>
  e=Xa (G (zbm Je 2 (Zb s)))/\Wr (fun k=>k=a) w w'/\(zbm Je 2 (Zb s)=true->Whs w' a (zbh (fun j=>3*m+1+j) 0 zs ((Zb s).drop 1))):=by
 obtain⟨_,_,_,_,_⟩:=hb;have d:=b.lt;obtain⟨f,g,h,l⟩:=zeK w (cl #[gS ⟨Je.toArray⟩] 9) (cl #[pn (E ⟨a,m*6+2,O⟩)] 333) (cl #[pn (E ⟨a,m*6+4,O⟩)] 333) (cl #[QY w.heap.size,ZA (w.heap.size+1),ZA (w.heap.size+1+1)] 327);have d:Below w.heap.size w ((((w.alloc (cl #[gS ⟨Je.toArray⟩] 9)).alloc (cl #[pn (E ⟨a,m*6+2,O⟩)] 333)).alloc (cl #[pn (E ⟨a,m*6+4,O⟩)] 333)).alloc (cl #[QY w.heap.size,ZA (w.heap.size+1),ZA (w.heap.size+1+1)] 327)).drew:=((zbt w _ _ _).alloc so _).trans (c:=World.drew _) ⟨rfl,rfl,rfl,zh _,fun _ _=>rfl⟩;have o:=zf (zih s hs Je w.heap.size [w.heap.size+1,w.heap.size+1+1] (fun j=>3*m+1+j) a zs (w.heap.size+1+1+1) 3
  ((((w.alloc (cl #[gS ⟨Je.toArray⟩] 9)).alloc (cl #[pn (E ⟨a,m*6+2,O⟩)] 333)).alloc (cl #[pn (E ⟨a,m*6+4,O⟩)] 333)).alloc (cl #[QY w.heap.size,ZA (w.heap.size+1),ZA (w.heap.size+1+1)] 327)).drew
  om sp sp om
  (fun i fv a=>by
   refine(ze _ _ _ _ _ _ l).trans ?_;match i,a with
   |0,a=>simpa using a
   |1,a=>simpa using a
   |2,a=>simpa using a
   |i+3,a=>simp at a)
  (ze _ _ _ _ _ _ f) om
  (fun j q a=>by
   match j,a with
   |0,a=>
    simp at a;subst a;refine⟨om,?_,om⟩;rw[show 2*(3*m+1+0)=m*6+2 by omega];exact ze _ _ _ _ _ _ g
   |1,a=>
    simp at a;subst a;refine⟨om,?_,om⟩;rw[show 2*(3*m+1+1)=m*6+4 by omega];exact ze _ _ _ _ _ _ h
   |j+2,a=>simp at a)
  (b.below d))
 clear f g h l b;go_enter func140,ntmps140
 go_wp2_with fail
 go_region_with (first|(go_at_call 230;refine(ze2 _ _).mono ?_;rintro e a ⟨rfl,rfl⟩)|(go_at_call 232;refine(jn _ _).mono ?_;rintro e a ⟨rfl,rfl⟩)|(go_at_call 229;refine o.out.mono ?_;rintro e a ⟨rfl,a,b⟩))
 all_goals go_wp2
 all_goals go_ret
 all_goals exact⟨rfl,(Xf d).trans a,b⟩
def zdX (n:Nat)(ws:List (List UInt8)):Bool:=decide (ws.length=n+3/\ws.getD 0 []=JX/\((ws.drop 1).take n).all dOk=true/\jO (ws.getD (n+1) [])=true/\dOk (ws.getD (n+2) [])=true)
def okR (n k:Nat)(x:List UInt8):Bool:=if k=0 then decide (x=JX)else if k<=n then dOk x else if k=n+1 then jO x else dOk x
theorem zm4{b:Type}(f:b->Bool)(d:b)(a:List b)(n:Nat)(h:n+1<=a.length):((a.drop 1).take n).all f=true↔∀j,0<j->j<=n->f (a.getD j d)=true:=by
 rw[Zi];constructor
 ·intro b j c c;rw[zk,zg om];refine b _ ?_;have:a[j]' om=((a.drop 1).take n)[j-1]'(by rw[zX,Za];omega):=by
   rw[List.getElem_take,zcZ];congr 1
   omega
  rw[qB,this];exact zJ _
 ·intro b x a;obtain⟨j,c,rfl⟩:=List.mem_iff_getElem.1 a;rw[zX,Za]at c;have:=b (1+j) om om;rw[zk,zg om]at this;rw[List.getElem_take,zcZ];exact this
theorem zoI(n:Nat)(b:List (List UInt8)):zdS (n+3) (okR n) b=zdX n b:=by
 unfold zdS zdX okR;rw[zaI];constructor
 ·rintro⟨d,a⟩;refine⟨d,?_,(zm4 dOk [] b n om).2 fun j c e=>?_,?_,?_⟩;·simpa using a 0 om
  ·have:=a j om;rwa [zO om,zQ e]at this
  ·have:=a (n+1) om;rwa [zO om,zO om,zQ rfl]at this
  ·have:=a (n+2) om;rwa [zO om,zO om,zO om]at this
 ·rintro⟨d,a,f,g,h⟩;refine⟨d,fun j e=>?_⟩;by_cases c:j=0
  ·subst c;rw[zQ rfl,a];simp
  ·rw[zO c];by_cases a:j<=n
   ·rw[zQ a];exact(zm4 dOk [] b n om).1 f j om a
   ·rw[zO a];by_cases a:j=n+1
    ·rw[zQ a,a];exact g
    ·rw[zO a,show j=n+2 by omega];exact h
def zey (n bf gr:Nat)(zs:List Int)(pre:List (List UInt8))(A:H):Prop:=
 Whs A bf (zbh id 0 zs ((pre.drop 1).take n))/\qK A gr/\(∃sr,A.cell? (Xd gr 0 O)=E (gS sr)/\A.frozen? (Xd gr 0 O)=false/\(n+1<pre.length->sr=⟨(pre.getD (n+1) []).toArray⟩))/\
  (∃z,Q3 A gr 1 z/\(n+2<pre.length->z=T.wZ (pre.getD (n+2) [])))/\A.cell? (Xd gr 3 O)=E (V (E (Xd bf 0 O)) n n)
theorem zey.keep{pre:List (List UInt8)}(h:zey n b c zs pre w)(a:zn B w w'):zey n b c zs pre w':=by
 obtain⟨c,d,⟨k,b,e,f⟩,⟨z,g,i⟩,j⟩:=h;exact⟨c.keep a,d.keep a,⟨k,a.cell b,(a.frozen b).trans e,f⟩,⟨z,g.keep a,i⟩,a.cell j⟩
theorem zey.far{pre:List (List UInt8)}(h:zey n b c zs pre w){a:Addr}{y:Value}(e:w.cell? a=E y)(d:∀k,y≠it .u32 k)(hb:a.block≠b)(hg:a.block≠c)(v:Value):zey n b c zs pre (w.setCell a v):=by
 obtain⟨b,c,⟨o,f,g,i⟩,⟨z,j,l⟩,m⟩:=h;exact⟨b.setCell e d hb v,c.far hg v,⟨o,(qj _ _ _ _ hg).trans f,by simpa using g,i⟩,⟨z,j.setCell e d hg v,l⟩,(qj _ _ _ _ hg).trans m⟩
theorem Q3.beside{o p:Nat}{z:Int}(h:Q3 w b o z){y:Value}(f:w.cell? (Xd b p O)=E y)(e:∀k,y≠it .u32 k)(d:p≠o)(h1:p≠o+1)(v:Value):Q3 (w.setCell (Xd b p O) v) b o z:=by
 obtain⟨x,a,q,c,g,i,j,l,m⟩:=h;refine⟨x,a,q,c,?_,?_,j.setCell f e v,by simpa using l,by simpa using m⟩;·rw[zA _ _ _ _ (by intro e;injection e with _ a;exact d a)];exact g
 ·rw[zA _ _ _ _ (by intro e;injection e with _ a;exact h1 a)];exact i
theorem zqK(s:List UInt8)(hs:s.length<=2000)(q0 qr qb n:Nat)(qs:List Nat)(bf gr:Nat)(zs:List Int)(g cap:Nat)(w:H)(hg:g≠bf/\g≠gr)(hn:qs.length=n)(hl:n<=900)(hcap:n+3<=cap)(hcap9:cap<=9223372036854775807)(hzl:zs.length=n)(hbg:bf≠gr)(hrow:∀i fv,(QY q0::(qs.map ZA ++ [jP qr,ZA qb]))[i]? =E fv->w.cell? (Xd g i O)=E fv)(h0:w.cell? (Xd q0 0 O)=E (gS ⟨JX.toArray⟩))(hq0:q0≠bf/\q0≠gr)(hqs:∀j q,qs[j]? =E q->q≠bf/\q≠gr/\w.cell? (Xd q 0 O)=E (pn (E ⟨bf,2*j,O⟩)))(hqr:qr≠bf/\qr≠gr/\w.cell? (Xd qr 0 O)=E (pn (E (Xd gr 0 O))))(hqb:qb≠bf/\qb≠gr/\w.cell? (Xd qb 0 O)=E (pn (E (Xd gr 1 O))))(hst:zey n bf gr zs [] w):
 Calls pg 229 #[gS ⟨s.toArray⟩,V (E (Xd g 0 O)) (n+3) cap] w fun e w'=>
  e=Xa (G (zdX n (Zb s)))/\Wr (fun k=>k=bf\/k=gr) w w'/\(zdX n (Zb s)=true->zey n bf gr zs (Zb s) w'):=by
 have hlen:(QY q0::(qs.map ZA ++ [jP qr,ZA qb])).length=n+3:=by simp[hn]
 have hbl:=hst.1.lt;have hgl:=hst.2.2.2.1.choose_spec.1.lt;have hF:=ziB s hs (QY q0::(qs.map ZA ++ [jP qr,ZA qb])) (okR n) (fun k=>k=bf\/k=gr) (zey n bf gr zs) g cap w
  (fun x hx=>by rcases hx with rfl|rfl<;>assumption) (fun e=>by rcases e with e|e;exact hg.1 e;exact hg.2 e) om om hcap9 hrow (fun pre A B hA hk=>hA.keep hk) (fun pre A a y v hA hy hn ha=>hA.far hy hn om om v) ?_ hst
 ·rw[hlen,zoI]at hF;exact hF
 ·intro k fv hfv;have hnT:∀{q:Nat},q≠bf->q≠gr->¬(q=bf\/q=gr):=fun h1 h2 e=>by rcases e with e|e;exact h1 e;exact h2 e
  by_cases hk0:k=0
  ·subst hk0;simp at hfv;subst hfv;refine⟨_,q0,rfl,ziz,fun pre x W hp hx hw hst=>?_⟩;refine(zfm x JX q0 W (hw.cell (p:=(Xd q0 0 O)) (hnT hq0.1 hq0.2) h0)).mono ?_;rintro e W' ⟨rfl,rfl⟩;refine⟨rfl,Xi _ _,fun _=>?_⟩;obtain rfl:pre= []:=QZ hp;obtain⟨a1,a2,⟨sr,a3,a4,a5⟩,⟨z,a6,a7⟩,a8⟩:=hst;exact⟨a1,a2,⟨sr,a3,a4,fun e=>by simp at e⟩,⟨z,a6,fun e=>by simp at e⟩,a8⟩
  ·obtain⟨j,rfl⟩:∃j,k=j+1:=⟨k-1,om⟩;rw[jg]at hfv;by_cases hjn:j<n
   ·rw[zS so,zR,zg om]at hfv;injection hfv with hfv
    subst hfv;obtain⟨hq1,hq2,hq3⟩:=hqs j _ (zg om);generalize qs[j]=q at *;refine⟨_,q,rfl,ziA,fun pre x W hp hx hw hst=>?_⟩;obtain⟨a1,a2,⟨sr,a3,a4,a5⟩,⟨z,a6,a7⟩,a8⟩:=hst;refine(zig x q bf j (2*j) _ W (hw.cell (p:=(Xd q 0 O)) (hnT hq1 hq2) hq3) rfl a1 (by rw[zeh];omega) hq1 hx).mono ?_;rintro e W' ⟨rfl,hw',hz'⟩;have hok:okR n (j+1) x=dOk x:=by unfold okR;rw[zO om,zQ om]
    rw[hok];refine⟨rfl,hw'.mono (fun k e=>Or.inl e),fun hd=>?_⟩;have hnd:∀k,k=bf->qK W k:=fun k e=>e▸a1.1
    refine⟨?_,a2.wr hw' (Qr hbg),⟨sr,hw'.cell (p:=(Xd gr 0 O)) (Qr hbg) a3,(hw'.frozen (p:=(Xd gr 0 O)) (Qr hbg) (zw a3)).trans a4,fun e=>?_⟩,⟨z,a6.wr hw' (Qr hbg) hnd,fun e=>?_⟩,hw'.cell (p:=(Xd gr 3 O)) (Qr hbg) a8⟩
    ·have e0:(pre.drop 1).length=j:=by rw[Za];omega
     have e1:((pre ++ [x]).drop 1).take n=pre.drop 1 ++ [x]:=by
      rw[jC om,zP (by rw[zM,e0];simp;omega)]
     have e2:(pre.drop 1).take n=pre.drop 1:=zP om;rw[e2]at hz';rw[e1,zhp,e0,qt];exact hz' hd
    ·simp at e;omega
    ·simp at e;omega
   ·rw[zG so,zm,hn]at hfv;by_cases hjr:j=n
    ·subst hjr;simp at hfv;subst hfv;refine⟨_,qr,rfl,zqs,fun pre x W hp hx hw hst=>?_⟩;obtain⟨a1,a2,⟨sr,a3,a4,a5⟩,⟨z,a6,a7⟩,a8⟩:=hst;refine(zh9 x qr gr sr W (hw.cell (p:=(Xd qr 0 O)) (hnT hqr.1 hqr.2.1) hqr.2.2) a3 a4).mono ?_;rintro e W' ⟨rfl,hw',hs'⟩;have hok:okR j (j+1) x=jO x:=by unfold okR;rw[zO om,zO om,zQ rfl]
     rw[hok];refine⟨rfl,hw'.mono (fun k e=>Or.inr e),fun hd=>?_⟩;obtain⟨w1,hb1,rfl⟩:=hs' hd;have hkp:zn 0 W w1:=zn.of_below hb1;have c0:=hkp.cell a3;refine⟨?_,(a2.keep hkp).setCell c0 sp,⟨⟨x.toArray⟩,zN _ _ _ c0,by simpa using (hkp.frozen a3).trans a4,fun _=>?_⟩,⟨z,(a6.keep hkp).beside c0 sp om om _,fun e=>?_⟩,?_⟩
     ·have e2:((pre ++ [x]).drop 1).take j=(pre.drop 1).take j:=by
       rw[jC om,Qq (by rw[Za];omega)]
      rw[e2];exact(a1.keep hkp).setCell (a:=⟨gr,0,O⟩) c0 sp (Qr hbg) _
     ·rw[zk,zG om,hp];simp
     ·simp at e;omega
     ·rw[zA _ _ _ _ sp];exact hkp.cell a8
    ·have hjr1:j=n+1:=by
      have:=(zo.1 hfv).1;simp at this;omega
     subst hjr1;have e3:n+1-n=1:=om;rw[e3]at hfv;simp at hfv;subst hfv;refine⟨_,qb,rfl,ziA,fun pre x W hp hx hw hst=>?_⟩;obtain⟨a1,a2,⟨sr,a3,a4,a5⟩,⟨z,a6,a7⟩,a8⟩:=hst;refine(zgi x qb gr 1 z W (hw.cell (p:=(Xd qb 0 O)) (hnT hqb.1 hqb.2.1) hqb.2.2) a6 hqb.2.1 om).mono ?_;rintro e W' ⟨rfl,w1,y,ao,l,c,hb1,rfl,hv⟩;have hok:okR n (n+1+1) x=dOk x:=by unfold okR;rw[zO om,zO om,zO om]
     rw[hok];refine⟨rfl,((Xf (T:=fun k=>k=bf\/k=gr) hb1).setCell (p:=(Xd gr 1 O)) (Or.inr rfl) _).setCell (p:=⟨gr,1+1,O⟩) (Or.inr rfl) _,fun hd=>?_⟩;have hkp:zn 0 W w1:=zn.of_below hb1;obtain⟨x0,a0,l0,c0,k0,k1,_⟩:=a6.keep hkp;have k1':(w1.setCell (Xd gr 1 O) (G y)).cell? ⟨gr,1+1,O⟩=E (V a0 l0 c0):=by
      rw[zA _ _ _ _ sp];exact k1
     refine⟨?_,((a2.keep hkp).setCell k0 sp).setCell k1' sp,⟨sr,?_,by simpa using (hkp.frozen a3).trans a4,fun _=>?_⟩,⟨_,(a6.keep hkp).put (a2.keep hkp) (hv hd),fun _=>?_⟩,?_⟩
     ·have e2:((pre ++ [x]).drop 1).take n=(pre.drop 1).take n:=by
       rw[jC om,Qq (by rw[Za];omega)]
      rw[e2];exact((a1.keep hkp).setCell (a:=⟨gr,1,O⟩) k0 sp (Qr hbg) _).setCell (a:=⟨gr,1+1,O⟩) k1' sp (Qr hbg) _
     ·rw[zA _ _ _ _ sp,zA _ _ _ _ sp];exact hkp.cell a3
     ·have:=a5 om;rw[this,zk,zk,zS om]
     ·rw[zk,zG om,hp];simp
     ·rw[zA _ _ _ _ sp,zA _ _ _ _ sp];exact hkp.cell a8
def zdY (A:H)(bf gr n:Nat):Prop:=
 A.heap[bf]? =E (cl (madeCells #[G false,V O 0 0] (n*2)) 85 (0,0))/\A.heap[gr]? =E (cl #[gS ⟨#[]⟩,G false,V O 0 0,V (E (Xd bf 0 O)) n n] 143 (0,0))
theorem zdY.keep{a:H}(h:zdY A b c n)(d:zn B A a):zdY a b c n:=⟨(d.cells' h.1 rfl).trans h.1,(d.cells' h.2 rfl).trans h.2⟩
theorem zdY.wr{T:Nat->Prop}{c:H}(h:zdY A a b n)(d:Wr T A c)(h1:¬T a)(h2:¬T b):zdY c a b n:=⟨d.some h.1 h1,d.some h.2 h2⟩
theorem zdY.start(h:zdY A a b n):zey n a b (List.replicate n 0) [] A:=by
 refine⟨?_,zE h.2 fun v a=>?_,⟨_,ze _ _ _ _ _ _ h.2,ZK _ _ _ _ _ h.2,fun e=>by simp at e⟩,⟨0,⟨false,O,0,0,ze _ _ _ _ _ _ h.2,ze _ _ _ _ _ _ h.2,⟨false,_,rfl,Xm _ _ _,by rw[Hid];rfl⟩,ZK _ _ _ _ _ h.2,ZK _ _ _ _ _ h.2⟩,fun e=>by simp at e⟩,ze _ _ _ _ _ _ h.2⟩
 ·have:=zkx (m:=n) h.1 (by rw[size_madeCells];omega) fun j b=>⟨by
   rw[zei om];have:(2*j)%(#[G false,V O 0 0]:Array Value).size=0:=sp;rw[this];rfl,by
   rw[zei om];have:(2*j+1)%(#[G false,V O 0 0]:Array Value).size=1:=by simp<;>omega
   rw[this];rfl⟩
  rw[show List.take n (List.drop 1 ([]:List (List UInt8)))= []by simp];exact this
 ·simp only[zI,zY,Zp]at a;intro n e;rcases a with rfl|rfl|rfl|rfl<;>cases e
def rowOf (n:Nat)(ws:List (List UInt8)):List Int×List UInt8×Int:=(((ws.drop 1).take n).map T.wZ,ws.getD (n+1) [],T.wZ (ws.getD (n+2) []))
theorem zqL(s:List UInt8)(hs:s.length<=2000){m:H}{o f i D:Nat}{p:qF}{S T:Value}{b:List Nat}{C:Option Addr}{N:Nat}{y:Nat}(r:DQ w o p S T)(ad:b.length<=900)(ar:w.heap.size<a)(aq:a<f/\a<i)(an:w.heap.size<f/\w.heap.size<i)(t:Pls w.heap.size w A f i JX b (fun j=>⟨w.heap.size,j*2,O⟩) [y,a,w.heap.size] C N)(K:∀q∈b,a<q)(a9:zdY A w.heap.size a b.length)(J:zn w.heap.size A m)(au:a<A.heap.size)(I:m.heap[D]? =E (.deferred (E [])))(al:a<D)(a0:D≠f)(hT:TwoP w.heap.size w m d A.heap.size f i JX b (fun j=>⟨w.heap.size,j*2,O⟩) [y,a,w.heap.size] (V C (b.length+1) N).ownBlock g cap (pn (E (Xd a 0 O))) (pn (E (Xd a 1 O)))):
 Calls pg 229 #[gS ⟨s.toArray⟩,V (E (Xd g 0 O)) (b.length+1+2) cap] d fun e A5=>
  e=Xa (G (zdX b.length (Zb s)))/\Below w.heap.size w A5/\A5.heap[D]? =E (.deferred (E []))/\a<A5.heap.size/\
   (zdX b.length (Zb s)=true->∃z x k l c,A5.cell? (Xd a 0 O)=E (gS z)/\A5.cell? (Xd a 1 O)=E (G x)/\A5.cell? (Xd a 2 O)=E (V k l c)/\A5.cell? (Xd a 3 O)=E (V (E (Xd w.heap.size 0 O)) b.length b.length)/\
    RowIs A5 (Own o S T) ⟨z,x,(k,l,c),w.heap.size,b.length⟩ (rowOf b.length (Zb s))):=by
 obtain⟨P,R,t3,_,t5,t6,t7,t8,_,Q,aj,ak⟩:=hT;have F:zdY d w.heap.size a b.length:=(a9.keep J).wr R (fun e=>by
  rcases e with e|e
  ·omega
  ·exact t.sep _ e w.heap.size sp rfl) (fun e=>by
  rcases e with e|e
  ·omega
  ·exact t.sep _ e a sp rfl)
 have ab:d.heap[D]? =E (.deferred (E [])):=R.some I (fun e=>by
  rcases e with e|e
  ·exact a0 e
  ·have a6:=(t.keep J (zh _)).own;obtain⟨_,k1|⟨_,_,_,kv,_,M,_⟩⟩:=a6;·exact absurd k1.1 sp
   ·rw[kv]at e;simp[Value.ownBlock]at e;subst e;rw[I]at M;cases M)
 refine(zqK s hs i A.heap.size (A.heap.size+1) b.length b w.heap.size a (List.replicate b.length 0) g cap d ⟨fun e=>Q w.heap.size sp om,fun e=>Q a sp e⟩ rfl ad aj ak sp om t3 t5 ⟨om,om⟩
  (fun j q u=>⟨by have:=K q (zx u);omega,by have:=K q (zx u);omega,by rw[t6 j q u,Z5]⟩) ⟨om,om,t7⟩ ⟨om,om,t8⟩ F.start).mono ?_
 rintro e A5 ⟨rfl,v,ah⟩;have aa:=P.trans (v.below (by have:=P.size;omega) (fun av e=>by rcases e with e|e<;>omega));refine⟨rfl,aa,v.some ab (fun e=>by rcases e with e|e<;>omega),by have:=v.size;have:=Jw F.2;omega,fun L=>?_⟩;obtain⟨B,_,⟨z,U,_,W⟩,⟨_,⟨x,k,l,c,Z,c2,c3,_,_⟩,X⟩,Y⟩:=ah L;have ae:=(jU L).1;have af:=W om;have ai:=X om;subst af ai;refine⟨_,x,k,l,c,U,Z,c2,Y,fun e=>?_,?_,?_,rfl,c3⟩
 ·have h1:=r.box.2.2.2.2;rcases e with e|e|e
  ·have e:w.heap.size=o:=e;omega
  ·rcases r.cols with ⟨_,h⟩|⟨_,_,h,_,h3,_⟩
   ·rw[h]at e;cases e
   ·rw[h]at e;simp[Value.ownBlock]at e;have:=h3.lt;omega
  ·obtain⟨_,_,h,_⟩:=r.rows;have:=(h.lt _ e).2;simp at this
 ·simp[rowOf,ae]
 ·have hl:((Zb s).drop 1 |>.take b.length).length=b.length:=by
   rw[zX,Za];omega
  rw[zqF (by rw[zbz,hl])]at B;exact B
theorem zqM{A5:H}{D:Nat}{p:qF}{e b:Value}{rs:List Jl}{r:Jl}{row:List Int×List UInt8×Int}(h:DQ w a p e b)(j:Below w.heap.size w A5)(X:Obj)(o:A5.heap[D]? =E (.deferred (E [])))(f:w.heap.size<=D)(s:rs.length=p.rows.length)(x:∀(i:Nat) (r:Jl) (row:List Int×List UInt8×Int),rs[i]? =E r->p.rows[i]? =E row->RowIs A5 (Own a e b) r row)(v:RowIs A5 (Own a e b) r row)(u:d.ownsRow 0 143 4 (V (E (Xd g 0 O)) (rs.length+1) cap) (rs.length+1) (zaH rs++r.cells))(hg:(A5.alloc X).drew.grownBy d b.ownBlock)(l:b.ownBlock=E g\/g=(A5.alloc X).drew.heap.size)(t:qK d g):
 Wr (Own a e b) w (d.setCell (Xd a 1 O) (V (E (Xd g 0 O)) (rs.length+1) cap))/\DQ (d.setCell (Xd a 1 O) (V (E (Xd g 0 O)) (rs.length+1) cap)) a { p with rows:=p.rows ++ [row] } e (V (E (Xd g 0 O)) (rs.length+1) cap)/\
  (d.setCell (Xd a 1 O) (V (E (Xd g 0 O)) (rs.length+1) cap)).heap[D]? =E (.deferred (E []))/\(∀k,(V (E (Xd g 0 O)) (rs.length+1) cap).ownBlock=E k->b.ownBlock=E k\/w.heap.size<=k):=by
 have f:zn 0 A5 (A5.alloc X).drew:=(zn.alloc _ _ _).trans (zn.drew _ _);have m:=h.below j;have q:=m.keep f;have m:Below w.heap.size w (A5.alloc X).drew:=(j.alloc j.size X).trans (c:=World.drew _) ⟨rfl,rfl,rfl,zh _,fun _ _=>rfl⟩;have y:Wr (Own a e b) (A5.alloc X).drew d:=⟨hg.os,hg.tape,hg.output,hg.size,fun k f d=>hg.block k f (fun j=>d (Or.inr (Or.inr j.symm)))⟩;have j:=h.box.2.2.2.2;refine⟨Xq (T:=Own a e b) ((Xf m).trans y) (p:=(Xd a 1 O)) (Or.inl rfl) _,q.rows_grown s (fun i r row a b=>(x i r row a b).keep f) (v.keep f) u hg l t,?_,fun k b=>?_⟩
 ·rw[qC _ _ _ _ so];have a:=Jw o;rw[hg.block D so (fun d=>?_)];·exact(qH A5 X D a).trans o
  ·obtain⟨_,_,a,_⟩:=h.rows;have:=(a.lt D d.symm).2;omega
 ·have:k=g:=by simpa[Value.ownBlock]using b.symm
  subst this;rcases l with d|d
  ·exact Or.inl d
  ·right
   have:=m.size;omega
attribute [local go_sem] zD zW qJ
theorem zmE(s:List UInt8)(hs:s.length<=2000)(r bc:Nat)(p:qF)(U:Value)(w:H)(h:DQ w r p (V (E (Xd bc 0 O)) p.n p.n) U)(bK:0<p.n)(hn:p.n<=4)(bL:p.rows.length<=6):
 Calls pg 141 #[pn (E (Xd r 0 O)),gS ⟨s.toArray⟩] w fun e w'=>
  e=Xa (G (zdX p.n (Zb s)))/\Wr (Own r (V (E (Xd bc 0 O)) p.n p.n) U) w w'/\(zdX p.n (Zb s)=true->∃aY,DQ w' r { p with rows:=p.rows ++ [rowOf p.n (Zb s)] } (V (E (Xd bc 0 O)) p.n p.n) aY/\∀k,aY.ownBlock=E k->U.ownBlock=E k\/w.heap.size<=k):=by
 obtain⟨i0,hi,bC,bD,bE⟩:=Zn Tryz.infoWhole;obtain⟨_,_,_,_,_⟩:=h.box;obtain⟨w1,_,aS,aQ⟩:=run_make_full (P:=pg) w 0 96 85 i0 _ 2 underlying96 hi bC bD Xb Xb p.n (by rw[bE];omega) mo (qo _);have aO:Below w.heap.size w w1:=(qf _ _).grown aQ (zh _) (fun k h=>by simp at h);have aD:w1.heap[w.heap.size]? =E (cl (madeCells #[G false,V O 0 0] (p.n*2)) 85 (0,0)):=zje aS;have br:w.heap.size<w1.heap.size:=Jw aD;obtain⟨b,hgr⟩:∃b,w1.heap.size=b:=⟨_,rfl⟩;obtain⟨F,hW2⟩:∃F,w1.alloc (cl #[gS ⟨#[]⟩,G false,V O 0 0,V (E (Xd w.heap.size 0 O)) p.n p.n] 143)=F:=⟨_,rfl⟩;have bl:Below w.heap.size w F:=by rw[<-hW2];exact aO.alloc aO.size _
 have ai:zdY F w.heap.size b p.n:=by
  rw[<-hW2];refine⟨(qH _ _ _ br).trans aD,?_⟩;rw[<-hgr];exact qR w1 _
 have ax:F.heap.size=b+1:=by rw[<-hW2,<-hgr];exact zL _ _
 have ad:=zf (Pls.start w F bl JX (fun o=>⟨w.heap.size,o*2,O⟩));have HD:=zf h;have bn:w.heap.size<b:=om;have hn:=hn;clear h aS aQ aD;generalize bu:p.n=n at *;refine Q0 func141 ntmps141 (h:=?_);rw[ax]at ad;gi_wp2;refine(zq.2 (ze2 _ _)).mono ?_;rintro e w2 ⟨rfl,rfl⟩;have g0:(((F.alloc (cl #[gS ⟨#[114,111,119]⟩] 9)).alloc (cl #[.func (.func 288) #[] #[pn (E ⟨b+1,0,O⟩)]] 327)).alloc (cl #[V (E ⟨b+1+1,0,O⟩) 1 1] 331)).cell? (Xd b 3 O)=E (V (E (Xd w.heap.size 0 O)) n n):=
  ((zbt F _ _ _).cell (p:=(Xd b 3 O)) so).trans (ze _ _ _ _ _ _ ai.2)
 gi_wp2;refine(zq.2 (zfL _ _ _ _ rfl _)).mono ?_;rintro e w2 ⟨rfl,rfl⟩;gi_wp2;refine zaW (zfp (E (Xd w.heap.size 0 O)) w.heap.size n n (b+1+1+1+1) om (fun _=>rfl)) rfl (qW func291 kr rfl) (fun bF Y=>?_)
  (fun k N A=>k<=n/\∃c I L,c.length=k/\Pls w.heap.size w A (b+1+1+1) (b+1) JX c (fun o=>⟨w.heap.size,o*2,O⟩) [b+1+1+1+1,b,w.heap.size] I L/\A.cell? ⟨b+1+1+1+1,0,O⟩=E (V (E (Xd w.heap.size 0 O)) n n)/\zdY A w.heap.size b n/\(∀T∈c,b<T)/\∀x,N x↔x=b+1+1+1\/(V I (k+1) L).ownBlock=E x)
  (fun m k A=>False) (fun x=>x=b+1+1+1\/(V (E ⟨b+1+1,0,O⟩) (0+1) 1).ownBlock=E x) ?hI ?hIx ?hC ?h0 ?round ?done ?stop
 case hI=>
  rintro k N A B' ⟨h1,c,I,L,h2,X,h4,h6,h7,h5⟩ hk;exact⟨h1,c,I,L,h2,X.keep hk so,hk.cell h4,h6.keep hk,h7,h5⟩
 case hIx=>
  rintro m k A B' h _;exact h.elim
 case hC=>
  rintro k N A ⟨h1,c,I,L,h2,X,h4,h6,h7,h5⟩;refine⟨h4,fun x hx=>?_⟩;subst h2;rcases(h5 x).1 hx with e|e
  ·rw[e];exact X.lt _ sp
  ·exact(X.own.lt x e).2
 case h0=>
  refine⟨qo _,[],E ⟨b+1+1,0,O⟩,1,rfl,?_,?_,?_,fun T hq=>by simp at hq,fun _=>Qb⟩
  ·have h1:=ad.out.avoid w.heap.size so (fun g e=>by simp[Value.ownBlock]at e;omega);have h2:=h1.avoid b so (fun g e=>by simp[Value.ownBlock]at e;omega);have X:=h2.alloc_avoid (cl #[V (E (Xd w.heap.size 0 O)) n n] 96);simp only[zL,ax]at X;exact X
  ·have:=(ZU (((F.alloc (cl #[gS ⟨#[114,111,119]⟩] 9)).alloc (cl #[.func (.func 288) #[] #[pn (E ⟨b+1,0,O⟩)]] 327)).alloc (cl #[V (E ⟨b+1+1,0,O⟩) 1 1] 331)) 96 (V (E (Xd w.heap.size 0 O)) n n)).cell;simp only[zL,ax]at this;exact this
  ·exact ai.keep (B:=0) ((((zn.alloc 0 F _).trans (zn.alloc 0 _ _)).trans (zn.alloc 0 _ _)).trans (zn.alloc 0 _ _))
 case round=>
  rintro l2 k bF N A Y ⟨_,c,I,L,av,l,aj,a7,aB,hM⟩;have bp:k<n:=by
   have:=(zo.1 Y).1;rwa [ji]at this
  rw[zcx bp]at Y;injection Y with Y
  subst Y;subst av;unfold Zz;gi_wp2;refine⟨Xi _ _,fun d al=>?_⟩;have t:=l.keep al so;have aP:=al.cell aj;have aN:=a7.keep al;have bN:A.heap.size<=d.heap.size:=al.size;have c6:=t.box;have c7:=(t.alloc (cl #[pn (E ⟨w.heap.size,c.length*2,O⟩)] 333)).box;have c8:=((t.alloc (cl #[pn (E ⟨w.heap.size,c.length*2,O⟩)] 333)).alloc (cl #[.func (.func 290) #[] #[pn (E (Xd d.heap.size 0 O))]] 327)).box;have ab:=((t.alloc (cl #[pn (E ⟨w.heap.size,c.length*2,O⟩)] 333)).alloc (cl #[.func (.func 290) #[] #[pn (E (Xd d.heap.size 0 O))]] 327)).drew;have a9:((d.alloc (cl #[pn (E ⟨w.heap.size,c.length*2,O⟩)] 333)).alloc (cl #[.func (.func 290) #[] #[pn (E (Xd d.heap.size 0 O))]] 327)).drew.cell? ⟨d.heap.size+1,0,O⟩=E (ZA d.heap.size):=by
   have:=(ZU (d.alloc (cl #[pn (E ⟨w.heap.size,c.length*2,O⟩)] 333)) 327 (ZA d.heap.size)).cell;rwa [zL]at this
  have ae:((d.alloc (cl #[pn (E ⟨w.heap.size,c.length*2,O⟩)] 333)).alloc (cl #[.func (.func 290) #[] #[pn (E (Xd d.heap.size 0 O))]] 327)).drew.cell? (Xd d.heap.size 0 O)=E (pn (E ⟨w.heap.size,c.length*2,O⟩)):=
   ((ZU d 333 (pn (E ⟨w.heap.size,c.length*2,O⟩))).alloc _).cell
  have aa:d.heap.size≠b+1+1+1:=by have:=t.lt (b+1+1+1) sp;omega
  have ah:w.heap.size<=d.heap.size:=t.bel.size;have af:∀g,(V I (c.length+1) L).ownBlock=E g->g≠d.heap.size:=fun g e=>by have:=(t.own.lt g e).2;omega
  have aw:c.length<=900:=om;have ba:∀T∈c ++ [d.heap.size],b<T:=by
   intro T hq;rcases zU.1 hq with e|e
   ·exact aB T e
   ·rw[qg.1 e];exact t.lt b sp
  have ay:Wr N d ((d.alloc (cl #[pn (E ⟨w.heap.size,c.length*2,O⟩)] 333)).alloc (cl #[.func (.func 290) #[] #[pn (E (Xd d.heap.size 0 O))]] 327)).drew:=(Xf (zaA d _ _)).trans (Xn _ _);have aA:((d.alloc (cl #[pn (E ⟨w.heap.size,c.length*2,O⟩)] 333)).alloc (cl #[.func (.func 290) #[] #[pn (E (Xd d.heap.size 0 O))]] 327)).drew.cell? ⟨b+1+1+1+1,0,O⟩=E (V (E (Xd w.heap.size 0 O)) n n):=((zn.alloc 0 d _).trans (zn.alloc 0 _ _)).cell aP;have az:zdY ((d.alloc (cl #[pn (E ⟨w.heap.size,c.length*2,O⟩)] 333)).alloc (cl #[.func (.func 290) #[] #[pn (E (Xd d.heap.size 0 O))]] 327)).drew w.heap.size b n:=aN.keep (((zn.alloc 0 d _).trans (zn.alloc 0 _ _)).trans (zn.drew 0 _));have M:d.heap.size<=((d.alloc (cl #[pn (E ⟨w.heap.size,c.length*2,O⟩)] 333)).alloc (cl #[.func (.func 290) #[] #[pn (E (Xd d.heap.size 0 O))]] 327)).drew.heap.size:=so;obtain⟨A6,hA6⟩:∃A6,((d.alloc (cl #[pn (E ⟨w.heap.size,c.length*2,O⟩)] 333)).alloc (cl #[.func (.func 290) #[] #[pn (E (Xd d.heap.size 0 O))]] 327)).drew=A6:=⟨_,rfl⟩;have aK:Hid (∀(g f:Nat) (j:H),Pls w.heap.size w (j.setCell ⟨b+1+1+1,0,O⟩ (V (E (Xd g 0 O)) (c.length+1+1) f)) (b+1+1+1) (b+1) JX (c ++ [d.heap.size]) (fun o=>⟨w.heap.size,o*2,O⟩) [b+1+1+1+1,b,w.heap.size] (E (Xd g 0 O)) f->
   Wr (fun x=>x=b+1+1+1\/(V I (c.length+1) L).ownBlock=E x) A6 (j.setCell ⟨b+1+1+1,0,O⟩ (V (E (Xd g 0 O)) (c.length+1+1) f))->((V I (c.length+1) L).ownBlock=E g\/A6.heap.size<=g)->
   Wr N d (j.setCell ⟨b+1+1+1,0,O⟩ (V (E (Xd g 0 O)) (c.length+1+1) f))/\∃M':Nat->Prop,(c.length+1<=n/\∃aI aM aX,aI.length=c.length+1/\Pls w.heap.size w (j.setCell ⟨b+1+1+1,0,O⟩ (V (E (Xd g 0 O)) (c.length+1+1) f)) (b+1+1+1) (b+1) JX aI (fun o=>⟨w.heap.size,o*2,O⟩) [b+1+1+1+1,b,w.heap.size] aM aX/\
    (j.setCell ⟨b+1+1+1,0,O⟩ (V (E (Xd g 0 O)) (c.length+1+1) f)).cell? ⟨b+1+1+1+1,0,O⟩=E (V (E (Xd w.heap.size 0 O)) n n)/\zdY (j.setCell ⟨b+1+1+1,0,O⟩ (V (E (Xd g 0 O)) (c.length+1+1) f)) w.heap.size b n/\(∀T∈aI,b<T)/\∀x,M' x↔x=b+1+1+1\/(V aM (c.length+1+1) aX).ownBlock=E x)/\∀x,M' x->N x\/A.heap.size<=x):=by
   intro g f j a1 S i;rw[hA6]at ay aA M az;refine⟨ay.trans (S.mono fun x hx=>(hM x).2 hx),fun x=>x=b+1+1+1\/(V (E (Xd g 0 O)) (c.length+1+1) f).ownBlock=E x,⟨om,_,_,_,sp,a1,?_,?_,ba,fun _=>Qb⟩,fun x hx=>?_⟩
   ·refine S.cell (p:=⟨b+1+1+1+1,0,O⟩) (fun e=>?_) aA;rcases e with e|e
    ·simp at e
    ·exact t.sep _ e (b+1+1+1+1) sp rfl
   ·refine az.wr S (fun e=>?_) (fun e=>?_)
    ·rcases e with e|e
     ·omega
     ·exact t.sep _ e w.heap.size sp rfl
    ·rcases e with e|e
     ·omega
     ·exact t.sep _ e b sp rfl
   ·rcases hx with e|e
    ·exact .inl ((hM x).2 (.inl e))
    ·have bB:x=g:=by simpa[Value.ownBlock]using e.symm
     subst bB;rcases i with e2|e2
     ·exact .inl ((hM _).2 (.inr e2))
     ·exact .inr om
  rw[<-hA6]at aK;clear hA6 ay aA M az aP aj hM l t HD ad a7 aN ai g0;gi_wp2;refine jX hm ?_;try(change wpAnyIn _ _ _ _ _ _ _ _ _ (World.drew _))
  refine rj2 0 1 (h:=fun K a=>?_) (h1:=fun K a=>?_);go_simp;refine a _ _ ?_;clear a K;refine rj1 1 (h:=fun K a=>?_);go_simp;refine a _ _ ?_;clear a K;refine rj1 2 (h:=fun K a=>?_);go_simp;refine(Zq l2 (zq.2 (jn _ _))).mono ?_;rintro e W ⟨rfl,rfl⟩;simp only[];refine a _ _ ?_;clear a K;refine rj1 3 (h:=fun K a=>?_);go_simp;refine a _ _ ?_;clear a K;refine rj1 4 (h:=fun K a=>?_);refine JT _ rfl (.tmp 21) (.tmp 24) rfl ab aw rfl rfl a9 ae ah aa af ?_;intro g f j a1 S i Q R;refine a _ _ ?_;clear a K;refine rj1 5 (h:=fun K a=>?_);go_simp;refine a _ _ ?_;clear a K;refine Q4 kr ?_ _;rotate_left;go_simp;refine a _ _ ?_;clear a K;refine rj2 0 2 (h:=fun K a=>?_) (h1:=fun K a=>?_);go_simp;refine a _ _ ?_;clear a K;refine rj1 2 (h:=fun K a=>?_);go_simp;refine(Zq l2 (zq.2 (jn _ _))).mono ?_;rintro e W ⟨rfl,rfl⟩;simp only[];refine a _ _ ?_;clear a K;refine rj1 3 (h:=fun K a=>?_);go_simp;refine a _ _ ?_;clear a K;refine rj1 4 (h:=fun K a=>?_);refine JT _ rfl (.tmp 21) (.tmp 24) rfl ab aw rfl rfl a9 ae ah aa af ?_;intro g f j a1 S i Q R;refine a _ _ ?_;clear a K;refine rj1 5 (h:=fun K a=>?_);go_simp;refine a _ _ ?_;clear a K;refine Q4 kr ?_ _;rotate_left;go_simp;refine(Zq l2 (zq.2 (jn _ _))).mono ?_;rintro e W ⟨rfl,rfl⟩;simp only[];refine a _ _ ?_;clear a K;refine rj2 0 3 (h:=fun K a=>?_) (h1:=fun K a=>?_);go_simp;refine a _ _ ?_;clear a K;refine rj1 3 (h:=fun K a=>?_);go_simp;refine a _ _ ?_;clear a K;refine rj1 4 (h:=fun K a=>?_);refine JT _ rfl (.tmp 21) (.tmp 24) rfl ab aw rfl rfl a9 ae ah aa af ?_;intro g f j a1 S i Q R;refine a _ _ ?_;clear a K;refine rj1 5 (h:=fun K a=>?_);go_simp;refine a _ _ ?_;clear a K;refine Q4 kr ?_ _;rotate_left;go_simp;refine a _ _ ?_;clear a K;refine rj1 0 (h:=fun K a=>?_);go_simp;refine a _ _ ?_;clear a K;refine rj1 4 (h:=fun K a=>?_);refine JT _ rfl (.tmp 21) (.tmp 24) rfl ab aw rfl rfl a9 ae ah aa af ?_;intro g f j a1 S i Q R;refine a _ _ ?_;clear a K;refine rj1 5 (h:=fun K a=>?_);go_simp;refine a _ _ ?_;clear a K;refine Q4 kr ?_ _;rotate_left;all_goals
   gi_wp2;exact aK.out g f j a1 S i
 case done=>
  rintro Z N A hD ⟨h1,c,I,L,av,l,aj,a7,aB,hM⟩ hd;rw[ji]at av;subst av;clear hM aj ad g0 ai;obtain⟨ip,ak,aq,ar,au⟩:=Zn Tryz.infoPlace;have k6:=l.box;have k7:=(l.alloc (cl #[pn (E (Xd b 0 O))] 338)).box;have k8:=((l.alloc (cl #[pn (E (Xd b 0 O))] 338)).alloc (cl #[pn (E (Xd b 1 O))] 333)).box;have k9:=(((l.alloc (cl #[pn (E (Xd b 0 O))] 338)).alloc (cl #[pn (E (Xd b 1 O))] 333)).alloc (cl #[jP A.heap.size,ZA (A.heap.size+1)] 327)).box;have a5:=((((l.alloc (cl #[pn (E (Xd b 0 O))] 338)).alloc (cl #[pn (E (Xd b 1 O))] 333)).alloc (cl #[jP A.heap.size,ZA (A.heap.size+1)] 327)).drew).own;have a0:zn w.heap.size A (((A.alloc (cl #[pn (E (Xd b 0 O))] 338)).alloc (cl #[pn (E (Xd b 1 O))] 333)).alloc (cl #[jP A.heap.size,ZA (A.heap.size+1)] 327)).drew:=(((zn.alloc _ _ _).trans (zn.alloc _ _ _)).trans (zn.alloc _ _ _)).trans (zn.drew _ _);have M:(((A.alloc (cl #[pn (E (Xd b 0 O))] 338)).alloc (cl #[pn (E (Xd b 1 O))] 333)).alloc (cl #[jP A.heap.size,ZA (A.heap.size+1)] 327)).drew.heap.size=A.heap.size+1+1+1:=sp;obtain⟨t0,t1,t2,_⟩:=zeK A (cl #[pn (E (Xd b 0 O))] 338) (cl #[pn (E (Xd b 1 O))] 333) (cl #[jP A.heap.size,ZA (A.heap.size+1)] 327) (cl #[] 327);rw[qH _ _ _ (by simp<;>omega)]at t0 t1 t2;have a2:(((A.alloc (cl #[pn (E (Xd b 0 O))] 338)).alloc (cl #[pn (E (Xd b 1 O))] 333)).alloc (cl #[jP A.heap.size,ZA (A.heap.size+1)] 327)).drew.cell? (Xd A.heap.size 0 O)=E (pn (E (Xd b 0 O))):=ze _ _ _ _ _ _ t0;have a3:(((A.alloc (cl #[pn (E (Xd b 0 O))] 338)).alloc (cl #[pn (E (Xd b 1 O))] 333)).alloc (cl #[jP A.heap.size,ZA (A.heap.size+1)] 327)).drew.cell? ⟨A.heap.size+1,0,O⟩=E (pn (E (Xd b 1 O))):=ze _ _ _ _ _ _ t1;have a4:∀(o:Nat) (u:Value),[jP A.heap.size,ZA (A.heap.size+1)][o]? =E u->(((A.alloc (cl #[pn (E (Xd b 0 O))] 338)).alloc (cl #[pn (E (Xd b 1 O))] 333)).alloc (cl #[jP A.heap.size,ZA (A.heap.size+1)] 327)).drew.cell? ((⟨A.heap.size+1+1,0,O⟩:Addr).add o)=E u:=
   World.news_of_block (cs:=#[jP A.heap.size,ZA (A.heap.size+1)]) t2
  have a8:∀u∈ [jP A.heap.size,ZA (A.heap.size+1)],u.oneCell'=true:=by
   intro u J;simp only[zI,zY,Zp]at J;rcases J with rfl|rfl<;>rfl
  have bG:w.heap.size<=A.heap.size:=l.bel.size;have aZ:b<A.heap.size:=l.lt b sp;have bI:b+1+1+1+1<Z:=by simp[ax]at hD;omega
  have aJ:(((A.alloc (cl #[pn (E (Xd b 0 O))] 338)).alloc (cl #[pn (E (Xd b 1 O))] 333)).alloc (cl #[jP A.heap.size,ZA (A.heap.size+1)] 327)).drew.heap[Z]? =E (.deferred (E [])):=((zbt A _ _ _).block Z (Jw hd)).trans hd;obtain⟨ir,bo,bw,bx,bz⟩:=Zn Tryz.infoRow;clear t0 t1 t2;simp only[jP,ZA]at k9;gi_wp2;refine zcM ?_;refine jX hm ?_;try(change wpAnyIn _ _ _ _ _ _ _ _ _ (World.drew _))
  refine wpAnyIn_take (i:=1) (v:=pn (E (Xd b 0 O))) rfl rfl kr kr kr (fun _ _ _ h=>h) ⟨Or.inl ⟨by rfl,?_⟩,fun _=>rfl⟩ ?_
  ·intro w;go_simp
  refine wpAnyIn_take (i:=3) (v:=pn (E (Xd b 1 O))) rfl rfl kr kr kr (fun _ _ _ h=>h) ⟨Or.inl ⟨by rfl,?_⟩,fun _=>rfl⟩ ?_
  ·intro w;go_simp
  refine rj2 0 2 (h:=fun K a=>?_) (h1:=fun K a=>?_);go_simp;refine a _ _ ?_;clear a K;refine rj1 2 (h:=fun K a=>?_);go_simp;refine(zq.2 (zfK _ _)).mono ?_;rintro e W ⟨rfl,rfl⟩;simp only[];refine a _ _ ?_;clear a K;refine rj1 4 (h:=fun K a=>?_);go_simp;refine(zq.2 (jn _ _)).mono ?_;rintro e W ⟨rfl,rfl⟩;simp only[];refine a _ _ ?_;clear a K;refine rj1 5 (h:=fun K a=>?_);go_simp;refine a _ _ ?_;clear a K;refine rj1 6 (h:=fun K a=>?_);refine zag _ rfl (.tmp 26) (.tmp 31) 331 rfl w.heap.size 327 ip .nilFunc 1 8 underlying331 ak aq ar au rfl dc _ _ _ rfl a5 ⟨A.heap.size+1+1,0,O⟩ 2 2 [jP A.heap.size,ZA (A.heap.size+1)] rfl rfl a4 a8 om mo om so _ rfl ?_;intro g f j z y i an;obtain⟨Q,R,HX⟩:=ze5 l a0 M a2 a3 z y i;refine a _ _ ?_;clear a K z y i;refine rj1 7 (h:=fun K a=>?_);go_simp;refine a _ _ ?_;clear a K;refine Q4 kr ?_ _;rotate_left;go_simp;refine(zq.2 (zfK _ _)).mono ?_;rintro e W ⟨rfl,rfl⟩;simp only[];refine a _ _ ?_;clear a K;refine rj2 0 4 (h:=fun K a=>?_) (h1:=fun K a=>?_);go_simp;refine a _ _ ?_;clear a K;refine rj1 4 (h:=fun K a=>?_);go_simp;refine(zq.2 (jn _ _)).mono ?_;rintro e W ⟨rfl,rfl⟩;simp only[];refine a _ _ ?_;clear a K;refine rj1 5 (h:=fun K a=>?_);go_simp;refine a _ _ ?_;clear a K;refine rj1 6 (h:=fun K a=>?_);refine zag _ rfl (.tmp 26) (.tmp 31) 331 rfl w.heap.size 327 ip .nilFunc 1 8 underlying331 ak aq ar au rfl dc _ _ _ rfl a5 ⟨A.heap.size+1+1,0,O⟩ 2 2 [jP A.heap.size,ZA (A.heap.size+1)] rfl rfl a4 a8 om mo om so _ rfl ?_;intro g f j z y i an;obtain⟨Q,R,HX⟩:=ze5 l a0 M a2 a3 z y i;refine a _ _ ?_;clear a K z y i;refine rj1 7 (h:=fun K a=>?_);go_simp;refine a _ _ ?_;clear a K;refine Q4 kr ?_ _;rotate_left;go_simp;refine(zq.2 (jn _ _)).mono ?_;rintro e W ⟨rfl,rfl⟩;simp only[];refine a _ _ ?_;clear a K;refine rj2 0 5 (h:=fun K a=>?_) (h1:=fun K a=>?_);go_simp;refine a _ _ ?_;clear a K;refine rj1 5 (h:=fun K a=>?_);go_simp;refine a _ _ ?_;clear a K;refine rj1 6 (h:=fun K a=>?_);refine zag _ rfl (.tmp 26) (.tmp 31) 331 rfl w.heap.size 327 ip .nilFunc 1 8 underlying331 ak aq ar au rfl dc _ _ _ rfl a5 ⟨A.heap.size+1+1,0,O⟩ 2 2 [jP A.heap.size,ZA (A.heap.size+1)] rfl rfl a4 a8 om mo om so _ rfl ?_;intro g f j z y i an;obtain⟨Q,R,HX⟩:=ze5 l a0 M a2 a3 z y i;refine a _ _ ?_;clear a K z y i;refine rj1 7 (h:=fun K a=>?_);go_simp;refine a _ _ ?_;clear a K;refine Q4 kr ?_ _;rotate_left;go_simp;refine a _ _ ?_;clear a K;refine rj1 0 (h:=fun K a=>?_);go_simp;refine a _ _ ?_;clear a K;refine rj1 6 (h:=fun K a=>?_);refine zag _ rfl (.tmp 26) (.tmp 31) 331 rfl w.heap.size 327 ip .nilFunc 1 8 underlying331 ak aq ar au rfl dc _ _ _ rfl a5 ⟨A.heap.size+1+1,0,O⟩ 2 2 [jP A.heap.size,ZA (A.heap.size+1)] rfl rfl a4 a8 om mo om so _ rfl ?_;intro g f j z y i an;obtain⟨Q,R,HX⟩:=ze5 l a0 M a2 a3 z y i;refine a _ _ ?_;clear a K z y i;refine rj1 7 (h:=fun K a=>?_);go_simp;refine a _ _ ?_;clear a K;refine Q4 kr ?_ _;rotate_left;all_goals
   have x3:=HX.out.2.2.2.1;have HR:=zf (zqL s hs (D:=Z) HD.out om bn ⟨om,om⟩ ⟨om,om⟩ l aB a7 a0 aZ aJ om om HX.out);clear HX Q R an aJ a2 a3 a4 a5 a0 M k6 k7 k8 k9 l a7;simp only[];gi_wp2;refine(zq.2 HR.out).mono ?_;rintro e q ⟨rfl,aC,aE,_,aH⟩;clear HR x3;by_cases hr:zdX c.length (Zb s)=true
   ·obtain⟨D,x,v,C,m,_,_,_,_,aT⟩:=aH hr;clear aH;rw[hr];have bb:=zf aT;clear aT;have a6:=HD.out.below aC;obtain⟨_,e1,e2,e3,_⟩:=a6.box;obtain⟨rs,aU,bA,aV⟩:=a6.rows;have be:=zf aV;have bd:=zf aU;have bM:rs.length<=6:=om;clear aU;have b6:=zf (fun g hg=>(a6.nodR g hg).1);have bt:∀g,U.ownBlock=E g->g≠r:=fun g hg=>(a6.nodR g hg).2.1
    clear aV a6;have b9:=bA.alloc (cl #[gS D,G x,V v C m,V (E (Xd w.heap.size 0 O)) c.length c.length] 143);have b7:∀(o:Nat) (u:Value),(Jl.cells ⟨D,x,(v,C,m),w.heap.size,c.length⟩)[o]? =E u->(q.alloc (cl #[gS D,G x,V v C m,V (E (Xd w.heap.size 0 O)) c.length c.length] 143)).drew.cell? ((⟨q.heap.size,0,O⟩:Addr).add o)=E u:=
     World.news_of_block (cs:=#[gS D,G x,V v C m,V (E (Xd w.heap.size 0 O)) c.length c.length]) (qR q _)
    have b8:∀u∈Jl.cells ⟨D,x,(v,C,m),w.heap.size,c.length⟩,u.oneCell'=true:=by
     intro u J;simp only[Jl.cells,zI,zY,Zp]at J;rcases J with rfl|rfl|rfl|rfl<;>rfl
    have b5:∀u∈Jl.cells ⟨D,x,(v,C,m),w.heap.size,c.length⟩,ZM u:=by
     intro u J;simp only[Jl.cells,zI,zY,Zp]at J;intro n e;rcases J with rfl|rfl|rfl|rfl<;>cases e
    have bg:∀u∈(Value.agg #[gS ⟨#[]⟩,G false,V O 0 0,V O 0 0]).cells.toList,ZM u:=by
     intro u J;have aW:u∈ [gS ⟨#[]⟩,G false,V O 0 0,V O 0 0]:=J;simp only[zI,zY,Zp]at aW;intro n e;rcases aW with rfl|rfl|rfl|rfl<;>cases e
    have bf:∀g,U.ownBlock=E g->qK (q.alloc (cl #[gS D,G x,V v C m,V (E (Xd w.heap.size 0 O)) c.length c.length] 143)).drew g:=fun g hg=>(b6.out g hg).keep (B:=0) ((zn.alloc _ _ _).trans (zn.drew _ _))
    have aL:E r≠U.ownBlock:=fun e=>bt r e.symm rfl
    have bh:(q.alloc (cl #[gS D,G x,V v C m,V (E (Xd w.heap.size 0 O)) c.length c.length] 143)).drew.cell? (Xd r 1 O)=E U:=(zn.alloc 0 q _).cell e1;have bi:(q.alloc (cl #[gS D,G x,V v C m,V (E (Xd w.heap.size 0 O)) c.length c.length] 143)).drew.frozen? (Xd r 1 O)=false:=((zn.alloc 0 q _).frozen e1).trans e3;have aR:r<(q.alloc (cl #[gS D,G x,V v C m,V (E (Xd w.heap.size 0 O)) c.length c.length] 143)).drew.heap.size:=so;gi_wp2;refine zcM ?_;refine wpIn_wide.2 ?_;go_region_law (refine QM _ rfl (.tmp 41) (.tmp 43) 69 rfl 0 143 ir _ 4 72 underlying69 bo bw bx bz rfl dc U rs.length (zaH rs) rfl b9 ⟨q.heap.size,0,O⟩ 1 1 (Jl.cells ⟨D,x,(v,C,m),w.heap.size,c.length⟩) rfl rfl b7 b8 om mo om (qo _) _ rfl bg b5 bf ?_;intro g6 bH A6 bv aF bj bJ bs;have q1:=(aF.cell_far ⟨r,1,O⟩ aR aL).trans bh;have q3:=(aF.frozen_far ⟨r,1,O⟩ aR aL).trans bi)
    all_goals simp only[]
    all_goals gi_wp2
    all_goals obtain⟨z1,z2,z3,z4⟩:=zqM HD.out aC _ aE om bd.out be.out bb.out bv aF bj bs
    all_goals refine qh z3 ?_
    all_goals exact⟨G true,by simp[results,results141,go_sem],by rw[hr],z1.keep (zn.putObj (.deferred O) om z3 rfl),fun _=>⟨_,by have z5:=z2.keep (B:=w.heap.size) (zn.putObj (.deferred O) om z3 rfl);rw[bu]at z5;exact z5,z4⟩⟩
   ·have aG:zdX c.length (Zb s)=false:=by simpa using hr
    rw[aG];clear aH;gi_wp2;refine qh aE ?_;have bq:zn w.heap.size q (q.putObj Z (.deferred O)):=zn.putObj (.deferred O) om aE rfl;exact⟨G false,by simp[results,results141,go_sem],by rw[aG],(Xf aC).keep bq,fun h=>by rw[aG]at h;cases h⟩
 case stop=>
  rintro Z m k A hD hk h hd;exact h.elim
 ·obtain⟨_,hi,rfl⟩:=qP.1 Y;rfl
