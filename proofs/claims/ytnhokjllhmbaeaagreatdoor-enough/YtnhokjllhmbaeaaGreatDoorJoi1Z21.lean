import Derived.Test.YtnhokjllhmbaeaaGreatDoorJoi1Z20
open Option renaming none->O,some->E
open Go.Value renaming slice->V,bool->G,string->gS,tuple->tp,int->it,agg->ag
open Go.Obj renaming cells->cl
open Go renaming World->H
open Go.Proofs.Tryz renaming prog->pg
open Go.Proofs.Tryz
open Go.Ending renaming returned->Xa
open Go.IntKind renaming i64->Xb
open Go.Addr renaming mk->Xd
set_option linter.unusedSimpArgs false
set_option linter.unusedVariables false
set_option maxHeartbeats 2000000
set_option maxRecDepth 100000
namespace Go.Proofs.YtnhokjllhmbaeaaGreatDoor
section
variable {aims:List Int}{given n pivots:Nat}
theorem settle_more{rows:List qO}:∀(f g:Nat) (c:Cor),f<=g->ZV aims rows f c≠ .inr (.inr ())->ZV aims rows g c=ZV aims rows f c
 |0,0,c,_,_=>rfl
 |0,g+1,c,_,a=>by
  rw[ZV,ZV];rw[ZV]at a;cases hb:Qv c rows with
  |none=>rfl
  |some r=>
   rw[hb]at a;simp only at a⊢;cases hx:Qe aims c r.1 r.2 with
   |none=>rfl
   |some d=>rw[hx]at a;exact absurd rfl a
 |f+1,0,c,h,_=>om
 |f+1,g+1,c,h,a=>by
  rw[ZV,ZV];rw[ZV]at a;cases hb:Qv c rows with
  |none=>rfl
  |some r=>
   rw[hb]at a;simp only at a⊢;cases hx:Qe aims c r.1 r.2 with
   |none=>rfl
   |some d=>
    rw[hx]at a;exact settle_more f g d om a
def SOut.cuts:SOut->Nat
 |.inl (_,ls)=>ls.length
 |.inr (.inl (_,_,ls))=>ls.length
 |.inr (.inr k)=>k
def SOut.isLimit:SOut->Bool
 |.inr (.inr _)=>true
 |_=>false
theorem go_step(n:Nat)(aims:List Int)(given pivots f:Nat)(rows:List qO)(c:Cor)(a:List Zy):goS n aims given pivots f rows c a=match ZV aims rows pivots c with
 |.inr (.inr _)=> .inr (.inr a.length)
 |.inr (.inl (c,r))=> .inr (.inl (c,r,a))
 |.inl c'=>match jF n aims c' (given+a.length+1) (qU n aims c') Option.none with
  |Option.none=> .inl (c',a)
  |some r=>match f with
   |0=> .inr (.inr a.length)
   |f+1=>goS n aims given pivots f (jw c' given rows ++ [(Zd n aims c' r,given+a.length+1)]) c' (a ++ [QX n aims c' r]):=by
 cases f with
 |zero=>rw[goS];rfl
 |succ f=>rw[goS];rfl
theorem go_cuts_in:∀(N:Nat) (rows:List qO) (c:Cor) (b:List Zy),b.length<=(goS n aims given pivots N rows c b).cuts/\(goS n aims given pivots N rows c b).cuts<=b.length+N:=by
 intro N;induction N with
 |zero=>
  intro rows c b;rw[go_step];cases ZV aims rows pivots c using Xt with
  |li=>simp[SOut.cuts]
  |no a r=>simp[SOut.cuts]
  |ok a=>
   simp only;cases jF n aims a (given+b.length+1) (qU n aims a) Option.none with
   |none=>simp[SOut.cuts]
   |some r=>simp[SOut.cuts]
 |succ N d=>
  intro rows c b;rw[go_step];cases ZV aims rows pivots c using Xt with
  |li=>simp[SOut.cuts]
  |no a r=>simp[SOut.cuts]
  |ok a=>
   simp only;cases jF n aims a (given+b.length+1) (qU n aims a) Option.none with
   |none=>simp[SOut.cuts]
   |some r=>
    have:=d (jw a given rows ++ [(Zd n aims a r,given+b.length+1)]) a (b ++ [QX n aims a r]);rw[zM,ZH]at this;simp only;omega
theorem go_same{p q:Nat}(e:p<=q):∀(N:Nat) (rows:List qO) (c:Cor) (b:List Zy),(goS n aims given p N rows c b).isLimit=false->∀M,
 ((goS n aims given p N rows c b).cuts<=b.length+M->goS n aims given q M rows c b=goS n aims given p N rows c b)/\(b.length+M<(goS n aims given p N rows c b).cuts->goS n aims given q M rows c b= .inr (.inr (b.length+M))):=by
 intro N;induction N with
 |zero=>
  intro rows c b a M;rw[go_step]at a⊢;rw[go_step n aims given q M];cases hs:ZV aims rows p c using Xt with
  |li=>rw[hs]at a;cases a
  |no d r=>
   rw[settle_more p q c e (by rw[hs];exact fun h=>by cases h),hs];exact⟨fun _=>rfl,fun h=>by simp[SOut.cuts]at h;omega⟩
  |ok d=>
   rw[settle_more p q c e (by rw[hs];exact fun h=>by cases h),hs];rw[hs]at a;simp only at a⊢;cases hd:jF n aims d (given+b.length+1) (qU n aims d) Option.none with
   |none=>exact⟨fun _=>rfl,fun h=>by simp[SOut.cuts]at h;omega⟩
   |some r=>rw[hd]at a;cases a
 |succ N f=>
  intro rows c b a M;rw[go_step]at a⊢;rw[go_step n aims given q M];cases hs:ZV aims rows p c using Xt with
  |li=>rw[hs]at a;cases a
  |no d r=>
   rw[settle_more p q c e (by rw[hs];exact fun h=>by cases h),hs];exact⟨fun _=>rfl,fun h=>by simp[SOut.cuts]at h;omega⟩
  |ok d=>
   rw[settle_more p q c e (by rw[hs];exact fun h=>by cases h),hs];rw[hs]at a;simp only at a⊢;cases hd:jF n aims d (given+b.length+1) (qU n aims d) Option.none with
   |none=>exact⟨fun _=>rfl,fun h=>by simp[SOut.cuts]at h;omega⟩
   |some r=>
    rw[hd]at a;simp only at a⊢;have e:=(go_cuts_in (n:=n) (aims:=aims) (given:=given) (pivots:=p) N (jw d given rows ++ [(Zd n aims d r,given+b.length+1)]) d (b ++ [QX n aims d r])).1;rw[zM,ZH]at e;cases M with
    |zero=>exact⟨fun h=>om,fun _=>rfl⟩
    |succ M=>
     obtain⟨b,d⟩:=f _ _ _ a M;rw[zM,ZH]at b d;exact⟨fun h=>b om,fun h=>by simp only;rw[d om];congr 2;omega⟩
theorem go_or{p q N M:Nat}(d:p<=q)(b:N<=M)(rows:List qO)(c:Cor)(a:List Zy):goS n aims given p N rows c a=goS n aims given q M rows c a\/∃m,goS n aims given p N rows c a= .inr (.inr m)/\m<=a.length+N:=by
 have b:=go_cuts_in (n:=n) (aims:=aims) (given:=given) (pivots:=p) N rows c a;cases hl:(goS n aims given p N rows c a).isLimit with
 |false=>exact .inl ((go_same d N rows c a hl M).1 om).symm
 |true=>
  right
  cases hg:goS n aims given p N rows c a using Xu with
  |li m=>rw[hg]at b;exact⟨m,rfl,b.2⟩
  |gr c a=>rw[hg]at hl;cases hl
  |no c r a=>rw[hg]at hl;cases hl
theorem solve_cuts(p:qF)(cuts pivots:Nat):(zbF p cuts pivots).cuts<=min cuts 20000:=by
 have:=(go_cuts_in (n:=p.n) (aims:=p.mx) (given:=(T.rowsS p).length) (pivots:=pivots) (min cuts 20000) (jf p) (ze7 p) []).2;simpa[zbF]using this
theorem solve_same{p:qF}{cuts cuts' a:Nat}(h:(zbF p cuts pivots).isLimit=false)(c:pivots<=a):((zbF p cuts pivots).cuts<=cuts'->zbF p cuts' a=zbF p cuts pivots)/\(cuts'<(zbF p cuts pivots).cuts->zbF p cuts' a= .inr (.inr cuts')):=by
 have a:=solve_cuts p cuts pivots;obtain⟨a,b⟩:=go_same (n:=p.n) (aims:=p.mx) (given:=(T.rowsS p).length) c (min cuts 20000) (jf p) (ze7 p) [] h (min cuts' 20000);rw[QK,qt]at a b;have e:goS p.n p.mx (T.rowsS p).length pivots (min cuts 20000) (jf p) (ze7 p) []=zbF p cuts pivots:=rfl;rw[e]at a b;refine⟨fun c=>a om,fun c=>?_⟩;have c:=b om;have a:min cuts' 20000=cuts':=om;rw[a]at c;unfold zbF;rw[a];exact c
theorem solve_or{p:qF}{cuts cuts' a:Nat}(c:cuts'<=cuts)(b:a<=pivots):zbF p cuts' a=zbF p cuts pivots\/∃m,zbF p cuts' a= .inr (.inr m)/\m<=cuts':=by
 rcases go_or (n:=p.n) (aims:=p.mx) (given:=(T.rowsS p).length) b (show min cuts' 20000<=min cuts 20000 by omega) (jf p) (ze7 p) []with h|⟨m,h,hm⟩
 ·exact .inl h
 ·exact .inr ⟨m,h,by simp at hm;omega⟩
open Go.RowKit
def SOut.kind:SOut->Int
 |.inl (_,_)=>1
 |.inr (.inl (_,_,_))=>2
 |.inr (.inr _)=>3
def SOut.pts:SOut->List ByteArray
 |.inl (k,_)=>(ptS k).map zT
 |_=> []
def SOut.val (aims:List Int):SOut->ByteArray
 |.inl (k,_)=>zT (T.dotZ aims (ptS k))
 |_=>⟨#[]⟩
def SOut.log (aims:List Int):SOut->ByteArray
 |.inl (k,ls)=>⟨(zab ls (endG aims k)).toArray⟩
 |.inr (.inl (k,r,ls))=>⟨(zab ls (zcn k r)).toArray⟩
 |.inr (.inr _)=>⟨#[]⟩
theorem solq_form{B:Nat}{o:SOut}{v0 v1 v2 v3 v4:Value}{w:H}(h:SolQ B aims o (Xa (ag #[v0,v1,v2,v3,v4])) w):∃(a:Option Addr) (l c:Nat),v0=it Xb o.kind/\v1=V a l c/\v2=gS (o.val aims)/\v3=it Xb (o.cuts:Int)/\v4=gS (o.log aims)/\Grw B 9 1 w (V a l c) (o.pts.map zdh):=by
 cases o using Xu with
 |gr k e=>
  obtain⟨⟨a,l,c⟩,b,d⟩:=h;simp only[Ending.returned.injEq,zdU,Array.mk.injEq,za5,zel]at b;obtain⟨rfl,rfl,rfl,rfl,rfl⟩:=b;exact⟨a,l,c,rfl,rfl,rfl,rfl,rfl,d⟩
 |no k r e=>
  have b:Ending.returned (ag #[v0,v1,v2,v3,v4])=_:=h;simp only[Ending.returned.injEq,zdU,Array.mk.injEq,za5,zel]at b;obtain⟨rfl,rfl,rfl,rfl,rfl⟩:=b;exact⟨O,0,0,rfl,rfl,rfl,rfl,rfl,Xr _ _ _ _⟩
 |li m=>
  have b:Ending.returned (ag #[v0,v1,v2,v3,v4])=_:=h;simp only[Ending.returned.injEq,zdU,Array.mk.injEq,za5,zel]at b;obtain⟨rfl,rfl,rfl,rfl,rfl⟩:=b;exact⟨O,0,0,rfl,rfl,rfl,rfl,rfl,Xr _ _ _ _⟩
theorem five_cells{w w':H}{g:Nat}{a b c d e:Value}(h:w.heap[g]? =E (cl #[a,b,c,d,e] 31))(f:Ext w w'):w'.cell? (Xd g 0 O)=E a/\w'.cell? (Xd g 1 O)=E b/\w'.cell? (Xd g 2 O)=E c/\w'.cell? (Xd g 3 O)=E d/\w'.cell? (Xd g 4 O)=E e:=
 ⟨f.cell (c_ 0 h),f.cell (c_ 1 h),f.cell (c_ 2 h),f.cell (c_ 3 h),f.cell (c_ 4 h)⟩
section
theorem alike_same (w:H)(a a2:Option Addr)(d l2 b c:Nat)(f g:List ByteArray)(h1:zeX w (V a d b) f)(h2:zeX w (V a2 l2 c) g)(m:f.length<=1000)(o:g.length<=1000)(x:f=g)(k n:Int)(s log:ByteArray):
 Calls pg 12 #[ag #[it Xb k,V a d b,gS s,it Xb n,gS log],ag #[it Xb k,V a2 l2 c,gS s,it Xb n,gS log]] w fun e w'=>e=Xa (G true)/\Below w.heap.size w w':=by
 obtain⟨i,j⟩:=Xj w (cl #[it Xb k,V a d b,gS s,it Xb n,gS log] 31) (cl #[it Xb k,V a2 l2 c,gS s,it Xb n,gS log] 31);have l:Ext w ((w.alloc (cl #[it Xb k,V a d b,gS s,it Xb n,gS log] 31)).alloc (cl #[it Xb k,V a2 l2 c,gS s,it Xb n,gS log] 31)):=((Xe w).alloc _).alloc _;have h:=zf (zl2 _ _ _ f g (h1.ext l) (h2.ext l) m o);rw[zbA x]at h;have f:(s.toList == s.toList)=true:=sp;have f:(log.toList == log.toList)=true:=sp;obtain⟨f,g,m,o,p⟩:=five_cells i (Xe _);obtain⟨q,r,t,u,v⟩:=five_cells j (Xe _);clear h1 h2 x;go_enter func12,ntmps12
 go_wp2_with fail
 generalize (w.alloc (cl #[it Xb k,V a d b,gS s,it Xb n,gS log] 31)).alloc (cl #[it Xb k,V a2 l2 c,gS s,it Xb n,gS log] 31)=c at *;refine h.out.mono ?_;rintro e d ⟨rfl,b⟩;have a:Ext c d:=Xf b;clear f g m o p q r t u v;obtain⟨f,g,m,o,p⟩:=five_cells i a;obtain⟨q,r,t,u,v⟩:=five_cells j a;clear b i j h;go_wp2;go_ret;exact⟨rfl,l.trans a⟩
theorem alike_not (w:H)(b a2:Option Addr)(f l2 c d:Nat)(k l:List ByteArray)(h1:zeX w (V b f c) k)(h2:zeX w (V a2 l2 d) l)(L:k.length<=1000)(M:l.length<=1000)(a k2 i j:Int)(J:a≠k2)(m o g h:ByteArray):
 Calls pg 12 #[ag #[it Xb a,V b f c,gS m,it Xb i,gS g],ag #[it Xb k2,V a2 l2 d,gS o,it Xb j,gS h]] w fun e w'=>e=Xa (G false)/\Below w.heap.size w w':=by
 obtain⟨s,t⟩:=Xj w (cl #[it Xb a,V b f c,gS m,it Xb i,gS g] 31) (cl #[it Xb k2,V a2 l2 d,gS o,it Xb j,gS h] 31);have p:Ext w ((w.alloc (cl #[it Xb a,V b f c,gS m,it Xb i,gS g] 31)).alloc (cl #[it Xb k2,V a2 l2 d,gS o,it Xb j,gS h] 31)):=((Xe w).alloc _).alloc _;have r:=zf (zl2 _ _ _ k l (h1.ext p) (h2.ext p) L M);have Q:(a == k2)=false:=by simp[J]
 have R:decide (a=k2)=false:=J2 J;obtain⟨u,v,x,y,z⟩:=five_cells s (Xe _);obtain⟨A,B,C,D,F⟩:=five_cells t (Xe _);obtain⟨bb,hbb⟩:∃K,decide (k=l)=K:=⟨_,rfl⟩;rw[hbb]at r;clear h1 h2 hbb;go_enter func12,ntmps12
 go_wp2_with fail
 generalize (w.alloc (cl #[it Xb a,V b f c,gS m,it Xb i,gS g] 31)).alloc (cl #[it Xb k2,V a2 l2 d,gS o,it Xb j,gS h] 31)=N at *;refine r.out.mono ?_;rintro e P ⟨rfl,I⟩;have q:Ext N P:=Xf I;clear u v x y z A B C D F;obtain⟨u,v,x,y,z⟩:=five_cells s q;obtain⟨A,B,C,D,F⟩:=five_cells t q;clear I s t r;cases bb
 ·go_wp2;go_ret;exact⟨rfl,p.trans q⟩
 ·go_wp2;go_ret;exact⟨rfl,p.trans q⟩
end
theorem res_box {w1 b:H}{B:Nat}{o:SOut}(mx:List Int){a:Option Addr}{l c:Nat}(h:Ext w1 b)(d:Grw B 9 1 b (V a l c) (o.pts.map zdh)):(b.alloc (cl #[it Xb o.kind,V a l c,gS (o.val mx),it Xb (o.cuts:Int),gS (o.log mx)] 31)).heap[b.heap.size]? =E (cl #[it Xb o.kind,V a l c,gS (o.val mx),it Xb (o.cuts:Int),gS (o.log mx)] 31)/\Ext w1 (b.alloc (cl #[it Xb o.kind,V a l c,gS (o.val mx),it Xb (o.cuts:Int),gS (o.log mx)] 31))/\Grw B 9 1 (b.alloc (cl #[it Xb o.kind,V a l c,gS (o.val mx),it Xb (o.cuts:Int),gS (o.log mx)] 31)) (V a l c) (o.pts.map zdh):=
 ⟨zC _ _,h.alloc _,d.ext ((Xe _).alloc _)⟩
theorem pts_len {p:qF}(h:zc5 p){c q:Nat}{o:SOut}(ho:zbF p c q=o):o.pts.length<=1000:=by
 cases o using Xu with
 |gr k a=>
  have b:(ptS k).length=p.n:=((zik h c q).1 k a ho).1.1;have b:=h.n4;show((ptS k).map zT).length<=1000
  rw[zm];omega
 |no k r a=>simp[SOut.pts]
 |li m=>simp[SOut.pts]
def OutV (aims:List Int)(o:SOut)(a:Option Addr)(l c:Nat):Array Value:=#[it Xb o.kind,V a l c,gS (o.val aims),it Xb (o.cuts:Int),gS (o.log aims)]
section

variable {mx lo hi:List Int} {gs:List (List Int)} {ss rs:List Int}
theorem foundSmall_any (c:zai mx lo hi gs ss rs){o:SOut}(ho:zbF (QA mx lo hi gs ss rs) 1099511627776 1099511627776=o)(W:H){B:Nat}(b:B<=W.heap.size)(d:Tab W):
 Calls pg 7 #[gS ⟨(ze4 (QA mx lo hi gs ss rs)).toArray⟩] W fun e w'=>∃a l n,e=Xa (tp #[ag (OutV mx o a l n),G true])/\Grw B 9 1 w' (V a l n) (o.pts.map zdh)/\Below W.heap.size W w':=by
 refine(zpN _ _ (zmX c) W b d).mono ?_;rintro e w' ⟨⟨_,a,l,n,_,_,_,rfl,h⟩,j⟩;rw[ho]at h;obtain⟨_,_,_,b,c,d,f,g,i⟩:=solq_form h;cases b;cases c;cases d;cases f;cases g;exact⟨a,l,n,rfl,i,j⟩
theorem small_is (f:zai mx lo hi gs ss rs){o:SOut}(ho:zbF (QA mx lo hi gs ss rs) 1099511627776 1099511627776=o):∀b,za8 mx lo hi gs ss rs (8^mx.length) b->IsV mx o.kind o.pts (o.val mx) b:=fun b a=>by
 obtain⟨c,d,e⟩:=zjF f a (cuts:=1099511627776) (pivots:=1099511627776) dc dc;cases o using Xu with
 |gr k a=>rw[c k a ho];exact⟨rfl,rfl,rfl⟩
 |no k r a=>rw[d k r a ho];exact⟨rfl,rfl,rfl⟩
 |li m=>exact absurd ho (e m)
end

end

section
open Go.RowKit
structure AskA (W1:H)(g:Nat)(a1 a2 a3 a4 a5 a6:Option Addr)(l1 l2 l3 l4 l5 l6 c1 c2 c3 c4 c5 c6:Nat)(tx:ByteArray)(mx:List Int)(o:SOut):Prop where
 box:W1.heap[g]? =E (cl #[V a1 l1 c1,V a2 l2 c2,V a3 l3 c3,V a4 l4 c4,V a5 l5 c5,V a6 l6 c6] 25)
 text:∀W,Ext W1 W->Calls pg 8 #[ag #[V a1 l1 c1,V a2 l2 c2,V a3 l3 c3,V a4 l4 c4,V a5 l5 c5,V a6 l6 c6]] W fun e w'=>e=Xa (gS tx)/\Below W.heap.size W w'
 found:∀W,Ext W1 W->Calls pg 7 #[gS tx] W fun e w'=>∃a l n,e=Xa (tp #[ag #[it Xb o.kind,V a l n,gS (o.val mx),it Xb (o.cuts:Int),gS (o.log mx)],G true])/\Grw W.heap.size 9 1 w' (V a l n) (o.pts.map zdh)/\Below W.heap.size W w'
 is:∀W v,Ext W1 W->zeX W v o.pts->Calls pg 9 #[ag #[V a1 l1 c1,V a2 l2 c2,V a3 l3 c3,V a4 l4 c4,V a5 l5 c5,V a6 l6 c6],ag #[it Xb o.kind,v,gS (o.val mx)]] W fun e w'=>e=Xa (G true)/\Below W.heap.size W w'
 len:o.pts.length<=1000
theorem zc7.slices {w:H}{g f e d i h:Value}{mx lo hi:List Int}{gs:List (List Int)}{ss rs:List Int}(b:zc7 w g f e d i h mx lo hi gs ss rs):(∃a l c,g=V a l c)/\(∃a l c,f=V a l c)/\(∃a l c,e=V a l c)/\(∃a l c,d=V a l c)/\(∃a l c,i=V a l c)/\(∃a l c,h=V a l c):=by
 obtain⟨_,_,d,-⟩:=b.m;obtain⟨_,_,e,-⟩:=b.l;obtain⟨_,_,f,-⟩:=b.h;obtain⟨_,_,g,-⟩:=b.g;obtain⟨_,_,h,-⟩:=b.s;obtain⟨_,_,i,-⟩:=b.r;exact⟨⟨_,_,_,d⟩,⟨_,_,_,e⟩,⟨_,_,_,f⟩,⟨_,_,_,g⟩,⟨_,_,_,h⟩,⟨_,_,_,i⟩⟩
theorem askA_of {w w1:H}{a a2 c d e f:Option Addr}{m l2 o p q r g h i j k l:Nat}{mx lo hi:List Int}{gs:List (List Int)}{ss rs:List Int}(t:zc7 w1 (V a m g) (V a2 l2 h) (V c o i) (V d p j) (V e q k) (V f r l) mx lo hi gs ss rs)(b:zai mx lo hi gs ss rs)(hb:Ext w w1)(u:Tab w):
 AskA (w1.alloc (cl #[V a m g,V a2 l2 h,V c o i,V d p j,V e q k,V f r l] 25)) w1.heap.size a a2 c d e f m l2 o p q r g h i j k l ⟨(ze4 (QA mx lo hi gs ss rs)).toArray⟩ mx (zbF (QA mx lo hi gs ss rs) 1099511627776 1099511627776):=by
 obtain⟨v,s⟩:=new1 w1 (cl #[V a m g,V a2 l2 h,V c o i,V d p j,V e q k,V f r l] 25);have c:∀W,Ext _ W->Tab W:=fun W a=>u.below ((hb.trans s).trans a)
 exact⟨v,fun W a=>zjL W _ _ _ _ _ _ mx lo hi gs ss rs (t.ext (s.trans a)) b (c W a),fun W a=>foundSmall_any b rfl W (zh _) (c W a),fun W v a d=>zoc W _ _ _ _ _ _ mx lo hi gs ss rs (t.ext (s.trans a)) b (c W a) _ v _ _ d (pts_len (zjE b) rfl) (small_is b rfl),pts_len (zjE b) rfl⟩
theorem small_askA (t:ByteArray)(w:H)(hs:t.size<=9223372036854775807)(x:Tab w):
 Calls pg 6 #[gS t] w fun e w'=>∃a a2 b c d f m l2 p q r s g h i j k l u mx o,e=Xa (ag #[V a m g,V a2 l2 h,V b p i,V c q j,V d r k,V f s l])/\AskA (w'.alloc (cl #[V a m g,V a2 l2 h,V b p i,V c q j,V d r k,V f s l] 25)) w'.heap.size a a2 b c d f m l2 p q r s g h i j k l u mx o/\Below w.heap.size w w':=by
 refine(zmT t w hs).mono ?_;rintro e t ⟨_,_,_,_,_,_,mx,lo,hi,gs,ss,rs,rfl,u,v,t⟩;obtain⟨⟨a,m,g,rfl⟩,⟨a2,l2,h,rfl⟩,⟨b,p,i,rfl⟩,⟨c,q,j,rfl⟩,⟨d,r,k,rfl⟩,⟨f,s,l,rfl⟩⟩:=u.slices;exact⟨a,a2,b,c,d,f,m,l2,p,q,r,s,g,h,i,j,k,l,_,mx,_,rfl,askA_of u v (Xf t) x,t⟩
