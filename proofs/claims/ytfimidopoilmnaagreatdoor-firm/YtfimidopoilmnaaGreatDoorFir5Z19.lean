import Derived.Test.YtfimidopoilmnaaGreatDoorFir5Z18
open Option renaming none->O,some->E
open Go.Value renaming slice->V,bool->G,string->gS,tuple->tp,int->it,agg->ag
open Go.Obj renaming cells->cl
open Go renaming World->H
open Go.Proofs.Tryz renaming prog->pg
open Go.Proofs.Tryz
open Go.Ending renaming returned->Xa
open Go.IntKind renaming i64->Xb
open Go.Addr renaming mk->Xd
set_option linter.unusedSimpArgs false
set_option linter.unusedVariables false
set_option maxHeartbeats 8000000
set_option maxRecDepth 100000
namespace Go.Proofs.YtfimidopoilmnaaGreatDoor
section
open Go.RowKit
theorem read_no {s:List UInt8}{a b:Nat}(h:JY s= .error (a,b))(W:H):Calls pg 25 #[gS ⟨s.toArray⟩] W fun e w'=>e=Xa (tp #[ag #[V O 0 0,V O 0 0],it Xb (a:Nat),it Xb (b:Nat)])/\Below W.heap.size W w':=by
 by_cases d:2000<s.length
 ·unfold JY at h;rw[zQ d]at h;cases h;exact zo5 s d W
 ·refine(read_any s om W).mono ?_;rintro e w' ⟨f,⟨_,_,c,_,rfl⟩|⟨_,_,_,_,c,_⟩⟩
  ·rw[h]at c;cases c;exact⟨rfl,f⟩
  ·rw[h]at c;cases c
section

variable {s:List UInt8} {a b:Nat}
theorem plainNo_any (h:JY s= .error (a,b))(g:0<a)(w:H):Calls pg 5 #[gS ⟨s.toArray⟩] w fun e w'=>e=Xa (tp #[gS ⟨#[]⟩,it Xb (a:Nat),it Xb (b:Nat)])/\Below w.heap.size w w':=by
 have f:=zf (fun W=>read_no h W);have j:¬((a:Int)=0):=om;clear h g;generalize (⟨s.toArray⟩:ByteArray)=S at *;have d:Hid (Calls pg 14 #[gS S] w fun e w'=>e=Xa (tp #[gS ⟨#[]⟩,it Xb (a:Nat),it Xb (b:Nat)])/\Below w.heap.size w w'):=by
  rw[Hid];go_enter func14,ntmps14
  go_wp2_with fail
  refine(f.out _).mono ?_;rintro e i ⟨rfl,c⟩;go_wp2;go_ret3
  exact⟨rfl,c.alloc c.size _⟩
 go_enter func5,ntmps5
 go_wp2_with fail
 refine d.out.mono ?_;rintro e i ⟨rfl,c⟩;go_wp2;go_ret3
 exact⟨rfl,c⟩
theorem auditNo_any (h:JY s= .error (a,b))(k:0<a)(w:H)(kind:Int)(val log:ByteArray):Calls pg 7 #[gS ⟨s.toArray⟩,ag #[it Xb kind,V O 0 0,gS val],gS log] w fun e w'=>e=Xa (tp #[it Xb (a:Nat),it Xb (b:Nat)])/\Below w.heap.size w w':=by
 have j:=zf (fun W=>read_no h W);have r:¬((a:Int)=0):=om;clear h k;generalize (⟨s.toArray⟩:ByteArray)=S at *;have i:Hid (∀w,Calls pg 16 #[gS S,ag #[it Xb kind,V O 0 0,gS val],gS log] w fun e w'=>e=Xa (tp #[it Xb (a:Nat),it Xb (b:Nat)])/\Below w.heap.size w w'):=by
  rw[Hid];intro w;have g:Ext w (w.alloc (cl #[it Xb kind,V O 0 0,gS val] 28)):=(Xe w).alloc _;go_enter func16,ntmps16
  go_wp2_with fail
  generalize World.alloc _ _=l at *;refine(j.out l).mono ?_;rintro e m ⟨rfl,c⟩;have f:=zf (g.trans ((Xh c).alloc (cl #[V O 0 0,V O 0 0] 61)));clear c;go_wp2;go_ret2;exact⟨rfl,f.out⟩
 have g:Ext w (w.alloc (cl #[it Xb kind,V O 0 0,gS val] 28)):=(Xe w).alloc _;have d:=zC w (cl #[it Xb kind,V O 0 0,gS val] 28);have o:=c_ 0 d;have p:=c_ 1 d;have q:=c_ 2 d;clear d;go_enter func7,ntmps7
 go_wp2_with fail
 refine(i.out _).mono ?_;rintro e m ⟨rfl,c⟩;have f:=zf (g.trans (Xh c));clear c;go_wp2;go_ret2;exact⟨rfl,f.out⟩
end

end

section
open Go.RowKit
variable {w:H}
def refOk (s:ByteArray):Bool:=decide (4<=s.size)&&match JY (s.data.toList.drop 4)with
 |.error (a,b)=>decide (0<a)&&decide (s.data.toList.take 4= [UInt8.ofNat (48+a/10),UInt8.ofNat (48+a%10),UInt8.ofNat (48+b/10),UInt8.ofNat (48+b%10)])&&decide (a<100)&&decide (b<100)
 |.ok _=>false
theorem strs_block{g cap:Nat}{t:TypeId}{c:Nat×Nat}(ss:List ByteArray)(h:w.heap[g]? =E (cl (ss.map gS).toArray t c)):zeX w (V (E (Xd g 0 O)) ss.length cap) ss:=
 ⟨_,cap,rfl,fun _=>⟨g,0,rfl,(zd.1 h).1,fun i z d=>by
  rw[qt,ze _ _ i _ _ _ h,List.getElem?_toArray,zR,d];rfl⟩⟩
theorem refusals_any(w:H):Calls pg 4 #[] w fun e w'=>∃v ss,e=Xa v/\ss.length=29/\ss.all refOk=true/\zeX w' v ss/\Below w.heap.size w w':=by
 go_enter func4,ntmps4
 go_wp2;go_ret;refine⟨_,[_,_,_,_,_,_,_,_,_,_,_,_,_,_,_,_,_,_,_,_,_,_,_,_,_,_,_,_,_],rfl,rfl,?_,strs_block (cap:=29) [_,_,_,_,_,_,_,_,_,_,_,_,_,_,_,_,_,_,_,_,_,_,_,_,_,_,_,_,_] (zC w _),(Xe _).alloc _⟩;kernel_rfl
def SOut.cuts:SOut->Nat
 |.inl (_,ls)=>ls.length
 |.inr (.inl (_,_,ls))=>ls.length
 |.inr (.inr k)=>k
def SOut.kind:SOut->Int
 |.inl (_,_)=>1
 |.inr (.inl (_,_,_))=>2
 |.inr (.inr _)=>3
def SOut.pts:SOut->List ByteArray
 |.inl (k,_)=>(ptS k).map zT
 |_=> []
def SOut.val (aims:List Int):SOut->ByteArray
 |.inl (k,_)=>zT (T.dotZ aims (ptS k))
 |_=>⟨#[]⟩
def SOut.log (aims:List Int):SOut->ByteArray
 |.inl (k,ls)=>⟨(zab ls (endG aims k)).toArray⟩
 |.inr (.inl (k,r,ls))=>⟨(zab ls (zcn k r)).toArray⟩
 |.inr (.inr _)=>⟨#[]⟩
theorem solq_form{B:Nat}{aims:List Int}{o:SOut}{e f g i j:Value}(h:SolQ B aims o (Xa (ag #[e,f,g,i,j])) w):∃(a:Option Addr) (l c:Nat),e=it Xb o.kind/\f=V a l c/\g=gS (o.val aims)/\i=it Xb (o.cuts:Int)/\j=gS (o.log aims)/\Grw B 9 1 w (V a l c) (o.pts.map zdh):=by
 cases o using SOut.cs with
 |gr m p=>
  obtain⟨⟨a,l,c⟩,d,k⟩:=h;simp only[Ending.returned.injEq,zdU,Array.mk.injEq,za5,zel]at d;obtain⟨rfl,rfl,rfl,rfl,rfl⟩:=d;exact⟨a,l,c,rfl,rfl,rfl,rfl,rfl,k⟩
 |no m r p=>
  have d:Ending.returned (ag #[e,f,g,i,j])=_:=h;simp only[Ending.returned.injEq,zdU,Array.mk.injEq,za5,zel]at d;obtain⟨rfl,rfl,rfl,rfl,rfl⟩:=d;exact⟨O,0,0,rfl,rfl,rfl,rfl,rfl,Xr _ _ _ _⟩
 |li m=>
  have d:Ending.returned (ag #[e,f,g,i,j])=_:=h;simp only[Ending.returned.injEq,zdU,Array.mk.injEq,za5,zel]at d;obtain⟨rfl,rfl,rfl,rfl,rfl⟩:=d;exact⟨O,0,0,rfl,rfl,rfl,rfl,rfl,Xr _ _ _ _⟩
theorem five_cells{w':H}{g:Nat}{a b c d e:Value}(h:w.heap[g]? =E (cl #[a,b,c,d,e] 30))(f:Ext w w'):w'.cell? (Xd g 0 O)=E a/\w'.cell? (Xd g 1 O)=E b/\w'.cell? (Xd g 2 O)=E c/\w'.cell? (Xd g 3 O)=E d/\w'.cell? (Xd g 4 O)=E e:=
 ⟨f.cell (c_ 0 h),f.cell (c_ 1 h),f.cell (c_ 2 h),f.cell (c_ 3 h),f.cell (c_ 4 h)⟩
section

end
theorem res_box {w1 d:H}{B:Nat}{o:SOut}(mx:List Int){a:Option Addr}{l c:Nat}(h:Ext w1 d)(e:Grw B 9 1 d (V a l c) (o.pts.map zdh)):(d.alloc (cl #[it Xb o.kind,V a l c,gS (o.val mx),it Xb (o.cuts:Int),gS (o.log mx)] 30)).heap[d.heap.size]? =E (cl #[it Xb o.kind,V a l c,gS (o.val mx),it Xb (o.cuts:Int),gS (o.log mx)] 30)/\Ext w1 (d.alloc (cl #[it Xb o.kind,V a l c,gS (o.val mx),it Xb (o.cuts:Int),gS (o.log mx)] 30))/\Grw B 9 1 (d.alloc (cl #[it Xb o.kind,V a l c,gS (o.val mx),it Xb (o.cuts:Int),gS (o.log mx)] 30)) (V a l c) (o.pts.map zdh):=
 ⟨zC _ _,h.alloc _,e.ext ((Xe _).alloc _)⟩
theorem pts_len {p:qF}(h:zc5 p){c q:Nat}{o:SOut}(ho:zbF p c q=o):o.pts.length<=1000:=by
 cases o using SOut.cs with
 |gr k d=>
  have e:(ptS k).length=p.n:=((zik h c q).1 k d ho).1.1;have e:=h.n4;show((ptS k).map zT).length<=1000
  rw[zm];omega
 |no k r d=>simp[SOut.pts]
 |li m=>simp[SOut.pts]
def OutV (aims:List Int)(o:SOut)(a:Option Addr)(l c:Nat):Array Value:=#[it Xb o.kind,V a l c,gS (o.val aims),it Xb (o.cuts:Int),gS (o.log aims)]
section

variable {mx lo hi:List Int} {gs:List (List Int)} {ss rs:List Int}
theorem foundSmall_any (d:zai mx lo hi gs ss rs){o:SOut}(ho:zbF (QA mx lo hi gs ss rs) 1099511627776 1099511627776=o)(W:H){B:Nat}(c:B<=W.heap.size)(f:Tab W):
 Calls pg 12 #[gS ⟨(ze4 (QA mx lo hi gs ss rs)).toArray⟩] W fun e w'=>∃a l n,e=Xa (tp #[ag (OutV mx o a l n),G true])/\Grw B 9 1 w' (V a l n) (o.pts.map zdh)/\Below W.heap.size W w':=by
 refine(zpN _ _ (zmX d) W c f).mono ?_;rintro e w' ⟨⟨_,a,l,n,_,_,_,rfl,h⟩,k⟩;rw[ho]at h;obtain⟨_,_,_,c,d,f,g,i,j⟩:=solq_form h;cases c;cases d;cases f;cases g;cases i;exact⟨a,l,n,rfl,j,k⟩
theorem small_is (g:zai mx lo hi gs ss rs){o:SOut}(ho:zbF (QA mx lo hi gs ss rs) 1099511627776 1099511627776=o):∀b,za8 mx lo hi gs ss rs (8^mx.length) b->IsV mx o.kind o.pts (o.val mx) b:=fun b c=>by
 obtain⟨d,e,f⟩:=zjF g.shape c (cuts:=1099511627776) (pivots:=1099511627776) dc dc;cases o using SOut.cs with
 |gr k c=>rw[d k c ho];exact⟨rfl,rfl,rfl⟩
 |no k r c=>rw[e k r c ho];exact⟨rfl,rfl,rfl⟩
 |li m=>exact absurd ho (f m)
end

end

section
open Go.RowKit
variable {w:H}{z:Int}
structure AskA (W1:H)(g:Nat)(a1 a2 a3 a4 a5 a6:Option Addr)(l1 l2 l3 l4 l5 l6 c1 c2 c3 c4 c5 c6:Nat)(tx:ByteArray)(mx:List Int)(o:SOut):Prop where
 box:W1.heap[g]? =E (cl #[V a1 l1 c1,V a2 l2 c2,V a3 l3 c3,V a4 l4 c4,V a5 l5 c5,V a6 l6 c6] 41)
 text:∀W,Ext W1 W->Calls pg 11 #[ag #[V a1 l1 c1,V a2 l2 c2,V a3 l3 c3,V a4 l4 c4,V a5 l5 c5,V a6 l6 c6]] W fun e w'=>e=Xa (gS tx)/\Below W.heap.size W w'
 found:∀W,Ext W1 W->Calls pg 12 #[gS tx] W fun e w'=>∃a l n,e=Xa (tp #[ag #[it Xb o.kind,V a l n,gS (o.val mx),it Xb (o.cuts:Int),gS (o.log mx)],G true])/\Grw W.heap.size 9 1 w' (V a l n) (o.pts.map zdh)/\Below W.heap.size W w'
 is:∀W v,Ext W1 W->zeX W v o.pts->Calls pg 13 #[ag #[V a1 l1 c1,V a2 l2 c2,V a3 l3 c3,V a4 l4 c4,V a5 l5 c5,V a6 l6 c6],ag #[it Xb o.kind,v,gS (o.val mx)]] W fun e w'=>e=Xa (G true)/\Below W.heap.size W w'
 len:o.pts.length<=1000
theorem zc7.slices{h g f e j i:Value}{mx lo hi:List Int}{gs:List (List Int)}{ss rs:List Int}(d:zc7 w h g f e j i mx lo hi gs ss rs):(∃a l c,h=V a l c)/\(∃a l c,g=V a l c)/\(∃a l c,f=V a l c)/\(∃a l c,e=V a l c)/\(∃a l c,j=V a l c)/\(∃a l c,i=V a l c):=by
 obtain⟨_,_,e,-⟩:=d.m;obtain⟨_,_,f,-⟩:=d.l;obtain⟨_,_,g,-⟩:=d.h;obtain⟨_,_,h,-⟩:=d.g;obtain⟨_,_,i,-⟩:=d.s;obtain⟨_,_,j,-⟩:=d.r;exact⟨⟨_,_,_,e⟩,⟨_,_,_,f⟩,⟨_,_,_,g⟩,⟨_,_,_,h⟩,⟨_,_,_,i⟩,⟨_,_,_,j⟩⟩
theorem askA_of{w1:H}{c a2 e f g h:Option Addr}{p l2 q r t u i j k l m o:Nat}{mx lo hi:List Int}{gs:List (List Int)}{ss rs:List Int}(x:zc7 w1 (V c p i) (V a2 l2 j) (V e q k) (V f r l) (V g t m) (V h u o) mx lo hi gs ss rs)(d:zai mx lo hi gs ss rs)(hb:Ext w w1)(y:Tab w):
 AskA (w1.alloc (cl #[V c p i,V a2 l2 j,V e q k,V f r l,V g t m,V h u o] 41)) w1.heap.size c a2 e f g h p l2 q r t u i j k l m o ⟨(ze4 (QA mx lo hi gs ss rs)).toArray⟩ mx (zbF (QA mx lo hi gs ss rs) 1099511627776 1099511627776):=by
 obtain⟨z,v⟩:=new1 w1 (cl #[V c p i,V a2 l2 j,V e q k,V f r l,V g t m,V h u o] 41);have e:∀W,Ext _ W->Tab W:=fun W c=>y.below ((hb.trans v).trans c)
 exact⟨z,fun W c=>zjL W _ _ _ _ _ _ mx lo hi gs ss rs (x.ext (v.trans c)) d (e W c),fun W c=>foundSmall_any d rfl W (zh _) (e W c),fun W g c f=>zoc W _ _ _ _ _ _ mx lo hi gs ss rs (x.ext (v.trans c)) d (e W c) _ g _ _ f (pts_len (zjE d.shape) rfl) (small_is d rfl),pts_len (zjE d.shape) rfl⟩
theorem small_askA(x:ByteArray)(w:H)(hs:x.size<=9223372036854775807)(A:Tab w):
 Calls pg 10 #[gS x] w fun e w'=>∃c a2 d f g h q l2 r t u v i j k l m p y mx o,e=Xa (ag #[V c q i,V a2 l2 j,V d r k,V f t l,V g u m,V h v p])/\AskA (w'.alloc (cl #[V c q i,V a2 l2 j,V d r k,V f t l,V g u m,V h v p] 41)) w'.heap.size c a2 d f g h q l2 r t u v i j k l m p y mx o/\Below w.heap.size w w':=by
 refine(zmT x w hs).mono ?_;rintro e x ⟨_,_,_,_,_,_,mx,lo,hi,gs,ss,rs,rfl,y,z,x⟩;obtain⟨⟨c,q,i,rfl⟩,⟨a2,l2,j,rfl⟩,⟨d,r,k,rfl⟩,⟨f,t,l,rfl⟩,⟨g,u,m,rfl⟩,⟨h,v,p,rfl⟩⟩:=y.slices;exact⟨c,a2,d,f,g,h,q,l2,r,t,u,v,i,j,k,l,m,p,_,mx,_,rfl,askA_of y z (Xh x) A,x⟩
structure AskF (W1:H)(g:Nat)(a1 a2 a3 a4 a5 a6:Option Addr)(l1 l2 l3 l4 l5 l6 c1 c2 c3 c4 c5 c6:Nat)(tx:ByteArray)(mx:List Int)(o:SOut):Prop extends AskA W1 g a1 a2 a3 a4 a5 a6 l1 l2 l3 l4 l5 l6 c1 c2 c3 c4 c5 c6 tx mx o where
 no:∀(c q:Int) W,c<0\/q<0->-9<=c->c<=9->-9<=q->q<=9->Ext W1 W->Calls pg 6 #[gS tx,it Xb c,it Xb q] W fun e w'=>e=Xa (tp #[ag #[it Xb 0,V O 0 0,gS ⟨#[]⟩,it Xb 0,gS ⟨#[]⟩],it Xb 13,it Xb 0])/\Below W.heap.size W w'
theorem small_askF(z:ByteArray)(w:H)(hs:z.size<=9223372036854775807)(B:Tab w):
 Calls pg 10 #[gS z] w fun e w'=>∃c a2 d f g h r l2 t u v x i j k l m p L mx o,e=Xa (ag #[V c r i,V a2 l2 j,V d t k,V f u l,V g v m,V h x p])/\AskF (w'.alloc (cl #[V c r i,V a2 l2 j,V d t k,V f u l,V g v m,V h x p] 41)) w'.heap.size c a2 d f g h r l2 t u v x i j k l m p L mx o/\Below w.heap.size w w':=by
 refine(zmT z w hs).mono ?_;rintro e R ⟨_,_,_,_,_,_,mx,lo,hi,gs,ss,rs,rfl,C,A,y⟩;obtain⟨⟨c,r,i,rfl⟩,⟨a2,l2,j,rfl⟩,⟨d,t,k,rfl⟩,⟨f,u,l,rfl⟩,⟨g,v,m,rfl⟩,⟨h,x,p,rfl⟩⟩:=C.slices;refine⟨c,a2,d,f,g,h,r,l2,t,u,v,x,i,j,k,l,m,p,_,mx,_,rfl,⟨askA_of C A (Xh y) B,fun D K W J M N P Q F=>?_⟩,y⟩;refine(zjN _ D K W (zh _) (B.below (((Xh y).alloc _).trans F)) om om om om).mono ?_;rintro e w' ⟨q,I⟩;unfold zaj at q;rw[zmX A]at q;simp only at q;rw[zQ J]at q;exact⟨q,I⟩
theorem find_none(c:Int)(h:c<1\/6<c)(w:H):
 Calls pg 29 #[it Xb c] w fun e w'=>e=Xa (tp #[ag #[it Xb 0,.nilFunc,.nilFunc],G false])/\Below w.heap.size w w':=by
 have l:((1:Int) == c)=false:=ZN.2 om;have m:((2:Int) == c)=false:=ZN.2 om;have o:((3:Int) == c)=false:=ZN.2 om;have p:((4:Int) == c)=false:=ZN.2 om;have q:((5:Int) == c)=false:=ZN.2 om;have r:((6:Int) == c)=false:=ZN.2 om;have d:(1:Int)≠c:=om;have f:(2:Int)≠c:=om;have g:(3:Int)≠c:=om;have i:(4:Int)≠c:=om;have j:(5:Int)≠c:=om;have k:(6:Int)≠c:=om;clear h;go_enter func29,ntmps29
 go_wp2;refine wp_loop_rounds 7 ?_;rw[rounds_succ];go_wp2;rw[rounds_succ];go_wp2;rw[rounds_succ];go_wp2;rw[rounds_succ];go_wp2;rw[rounds_succ];go_wp2;rw[rounds_succ];go_wp2;rw[rounds_succ];go_wp2;exact zH (v:=tp #[ag #[it Xb 0,.nilFunc,.nilFunc],G false]) (by simp[results,results29,go_sem]) rfl ⟨rfl,(((((((((qf w.heap.size w).alloc (zh _) _).alloc sp _).alloc so _).alloc so _).alloc so _).alloc so _).alloc so _).alloc so _)⟩
theorem find_some(c:Int)(h1:1<=c)(i:c<=6)(w:H):
 Calls pg 29 #[it Xb c] w fun e w'=>∃f g,e=Xa (tp #[ag #[it Xb c,.func (.func f) #[] #[],.func (.func g) #[] #[]],G true])/\Below w.heap.size w w':=by
 have d:c=1\/c=2\/c=3\/c=4\/c=5\/c=6:=om;rcases d with rfl|rfl|rfl|rfl|rfl|rfl
 ·exact(find_1 w).mono fun e w' h=>⟨_,_,h⟩
 ·exact(find_2 w).mono fun e w' h=>⟨_,_,h⟩
 ·exact(find_3 w).mono fun e w' h=>⟨_,_,h⟩
 ·exact(find_4 w).mono fun e w' h=>⟨_,_,h⟩
 ·exact(find_5 w).mono fun e w' h=>⟨_,_,h⟩
 ·exact(find_6 w).mono fun e w' h=>⟨_,_,h⟩
theorem calc_none(c:Int)(h:c<1\/6<c)(s t:ByteArray)(w:H):
 Calls pg 17 #[it Xb c,gS s,gS t] w fun e w'=>e=Xa (tp #[gS ⟨#[]⟩,it Xb 1])/\Below w.heap.size w w':=by
 go_enter func17,ntmps17
 go_wp2_with fail
 refine(find_none c h _).mono ?_;rintro e f ⟨rfl,d⟩;go_wp2;go_ret2;exact⟨rfl,d.alloc d.size _⟩
theorem calc_unread(f:Int)(h1:1<=f)(K:f<=6)(s t:ByteArray)(hs:s.size<=9223372036854775807)(L:t.size<=9223372036854775807)(p:T.rOk s.data.toList=false\/T.rOk t.data.toList=false)(w:H):
 Calls pg 17 #[it Xb f,gS s,gS t] w fun e w'=>e=Xa (tp #[gS ⟨#[]⟩,it Xb 2])/\Below w.heap.size w w':=by
 have q:=zf (fun W=>find_some f h1 K W);by_cases h:T.rOk s.data.toList=true
 ·have g:T.rOk t.data.toList=false:=by
   rcases p with e|e
   ·rw[e]at h;simp at h
   ·exact e
  have x:=zf (fun W=>parse_yes s W hs h);have j:=zf (fun W=>parse_no t W L g);clear p h g;go_enter func17,ntmps17
  go_wp2_with fail
  refine(q.out _).mono ?_;rintro e R ⟨k,l,rfl,c⟩;have d:=c.alloc c.size (cl #[it Xb f,.func (.func k) #[] #[],.func (.func l) #[] #[]] 69);clear c;go_wp2_with fail
  refine(x.out _).mono ?_;rintro e S ⟨_,rfl,v,r⟩;obtain⟨b,y,M,D,z,N,F,rfl,_⟩:=v.parts;have o:Below w.heap.size w S:=d.trans (r.mono d.size);have u:=o.alloc o.size (cl #[G b,V y M D,V z N F] 77);clear r d o v;go_wp2_with fail
  refine(j.out _).mono ?_;rintro e U ⟨C,A,P,I,B,Q,J,rfl,m⟩;have i:=u.trans (m.mono u.size);go_wp2;go_ret2;exact⟨rfl,i.alloc i.size _⟩
 ·have g:T.rOk s.data.toList=false:=by simpa using h
  have j:=zf (fun W=>parse_no s W hs g);clear p h g;go_enter func17,ntmps17
  go_wp2_with fail
  refine(q.out _).mono ?_;rintro e R ⟨k,l,rfl,c⟩;have d:=c.alloc c.size (cl #[it Xb f,.func (.func k) #[] #[],.func (.func l) #[] #[]] 69);clear c;go_wp2_with fail
  refine(j.out _).mono ?_;rintro e U ⟨C,A,P,I,B,Q,J,rfl,m⟩;have i:=d.trans (m.mono d.size);go_wp2;go_ret2;exact⟨rfl,i.alloc i.size _⟩
theorem wrap_n(c:0<=z)(h1:z<=1000000):IntKind.i64.wrap z=z:=by rw[IntKind.wrap_i64];omega
theorem collapse{P Q:Prop}(k:P)(h:P->Q):Q:=h k
theorem pick_nat(z:Int)(n:Nat)(c:-9223372036854775808<=z)(h1:z<=9223372036854775807)(d:0<n)(f:n<=1000):∃k:Nat,k<n/\∀W,Calls pg 9 #[it Xb z,it Xb (n:Int)] W fun e w'=>e=Xa (it Xb (k:Int))/\w'=W:=by
 have d:=pickZ_bd z (n:=(n:Int)) om;obtain⟨k,hk⟩:∃k:Nat,pickZ z n=(k:Int):=⟨(pickZ z n).toNat,om⟩;rw[hk]at d;exact⟨k,om,fun W=>hk▸pick_any z n c h1 om om W⟩
def badL:List ByteArray:= [⟨#[]⟩,⟨#[45]⟩,⟨#[49,47]⟩,⟨#[47,49]⟩,⟨#[49,47,48]⟩,⟨#[49,47,45,49]⟩,⟨#[43,49]⟩,⟨#[49,46,53]⟩,⟨#[32,49]⟩,⟨#[49,32]⟩,⟨#[45,45,49]⟩,⟨#[49,47,50,47,51]⟩,⟨#[120]⟩,⟨#[49,50,51,52,53,54,55,56,57,48,49,50,51,52,53,54,55,56,57,48,49,50,51,52,53,54,55,56,57,48,49,50,51,52,53,54,55,56,57,48,49]⟩]
theorem with_strs{P:H->Prop}{cs:Array Value}{t:TypeId}(ss:List ByteArray)(c:cs=(ss.map gS).toArray)(h:∀W,zeX W (V (E (Xd w.heap.size 0 O)) ss.length ss.length) ss->Ext w W->P W):P (w.alloc (cl cs t)):=by
 subst c;exact h _ (strs_block ss (zC _ _)) ((Xe _).alloc _)
theorem bad_no:∀s∈badL,T.rOk s.data.toList=false/\s.size<=41:=by
 have h:badL.all (fun s=>!T.rOk s.data.toList&&decide (s.size<=41))=true:=kr;intro s c;have:=Zi.1 h s c;simpa using this
theorem refOk_parts{s:ByteArray}(h:refOk s=true):∃a b:Nat,4<=s.size/\JY (s.data.toList.drop 4)= .error (a,b)/\0<a/\a<100/\b<100/\s.data.toList.take 4= [UInt8.ofNat (48+a/10),UInt8.ofNat (48+a%10),UInt8.ofNat (48+b/10),UInt8.ofNat (48+b%10)]:=by
 unfold refOk at h;rw[Qj,Z9]at h;obtain⟨d,c⟩:=h;split at c
 ·rename_i a b e
  simp only[Qj,Z9]at c;exact⟨a,b,d,e,c.1.1.1,c.1.2,c.2,c.1.1.2⟩
 ·cases c
theorem wrap_m(c:0<=z)(h1:z<=1000):IntKind.i64.wrap z=z:=by rw[IntKind.wrap_i64];omega
theorem wrap_u(c:0<=z)(h1:z<=255):IntKind.u8.wrap z=z:=by rw[IntKind.wrap_u8];omega
theorem two_dig{n:Nat}(h:n<100):IntKind.i64.wrap (IntKind.i64.wrap (10*IntKind.i64.wrap (IntKind.u8.wrap (48+(n:Int)/10-48)))+IntKind.i64.wrap (IntKind.u8.wrap (48+(n:Int)%10-48)))=(n:Int):=by
 rw[show 48+(n:Int)/10-48=(n:Int)/10 by omega,show 48+(n:Int)%10-48=(n:Int)%10 by omega,wrap_u (z:=(n:Int)/10) om om,wrap_u (z:=(n:Int)%10) om om,wrap_m (z:=(n:Int)/10) om om,wrap_m (z:=(n:Int)%10) om om,wrap_m (z:=10*((n:Int)/10)) om om,wrap_m om om];omega
theorem tail_four(s:ByteArray):s.extract 4 s.size=⟨(s.data.toList.drop 4).toArray⟩:=ByteArray.ext (Array.toList_inj.1 (Lib.extract_to_end s 4))
theorem first_four{s:ByteArray}{a b:Nat}(h:s.data.toList.take 4= [UInt8.ofNat (48+a/10),UInt8.ofNat (48+a%10),UInt8.ofNat (48+b/10),UInt8.ofNat (48+b%10)])(o:a<100)(hb:b<100)(f:0<s.size)(g:1<s.size)(j:2<s.size)(k:3<s.size):
 (s[0]'f).toNat=48+a/10/\(s[1]'g).toNat=48+a%10/\(s[2]'j).toNat=48+b/10/\(s[3]'k).toNat=48+b%10:=by
 have c:∀(i:Nat) (hi:i<s.size) (d:Nat),i<4->d<256->(s.data.toList.take 4)[i]? =E (UInt8.ofNat d)->(s[i]'hi).toNat=d:=fun i hi d l p e=>by
  rw[zaG l]at e;have m:s.data.toList[i]? =E (s[i]'hi):=by
   rw[jz];exact qD hi
  rw[m]at e;rw[Q8 e,UInt8.toNat_ofNat'];omega
 refine⟨c 0 f _ om om (by rw[h];rfl),c 1 g _ om om (by rw[h];rfl),c 2 j _ om om (by rw[h];rfl),c 3 k _ om om (by rw[h];rfl)⟩
theorem keepFirm_any(Y:ByteArray)(g:Int)(w:H)(hs:Y.size<=9223372036854775807)(h0:-9223372036854775808<=g)(h1:g<=9223372036854775807)(ax:Tab w):
 Calls pg 3 #[gS Y,it Xb g] w fun e w'=>e=Xa (G true)/\Below w.heap.size w w':=by
 have af:=zf (refusals_any w);have aD:=zf (fun W (M:Ext w W)=>small_askF Y W hs (ax.below M));obtain⟨X,_,av⟩:=pick_nat g 6 h0 h1 dc dc;obtain⟨k2,_,aw⟩:=pick_nat g 1000 h0 h1 dc dc;have D:Hid (∀W,Calls pg 9 #[it Xb g,it Xb 6] W fun e w'=>e=Xa (it Xb (X:Int))/\w'=W):=av;have aa:Hid (∀W,Calls pg 9 #[it Xb g,it Xb 1000] W fun e w'=>e=Xa (it Xb (k2:Int))/\w'=W):=aw;clear av aw;go_enter func3,ntmps3
 go_wp2_with fail
 refine af.out.mono ?_;rintro e Z ⟨_,ss,rfl,N,ak,R,m⟩;have x1:Ext w Z:=Xh m;obtain⟨_,_,rfl,Q⟩:=R;rw[N]at Q⊢;have HR:=zf Q;have a0:Hid (∀s∈ss,refOk s=true):=fun s hs=>Zi.1 ak s hs
 have ab:=zf N;clear m Q ak N af;go_wp2;go_loopw [6] (fun T wr=>∃i:Nat,i<=29/\T=it Xb (i:Nat)/\Ext Z wr) (fun T _=>(29-intOf T).toNat)
 case atStart=>exact⟨0,om,rfl,Xe _⟩
 case round=>
  obtain⟨i,_,rfl,f⟩:=hrel;by_cases aL:i<29
  ·obtain⟨I,off,rfl,_,r⟩:=HR.out om;have t:i<ss.length:=by have:=ab.out;omega
   have u:=zg t;obtain⟨aj,eb,_,hp,ha,aF,A,ht⟩:=refOk_parts (a0.out _ (zJ t));have c0:=f.cell (r i _ u);have F:=zf hp;have HT:=zf ht;generalize ss[i]=s at *;clear u r hp ht;have z0:0<s.size:=om;have z1:1<s.size:=om;have z2:2<s.size:=om;have z3:3<s.size:=om;have y1:(1:Int)<(s.size:Int):=om;have y2:(2:Int)<(s.size:Int):=om;have y3:(3:Int)<(s.size:Int):=om;have y4:(4:Int)<=(s.size:Int):=om;obtain⟨e0,e1,e2,e3⟩:(s[0]'z0).toNat=48+aj/10/\(s[1]'z1).toNat=48+aj%10/\(s[2]'z2).toNat=48+eb/10/\(s[3]'z3).toNat=48+eb%10:=first_four HT.out om om z0 z1 z2 z3;go_wp2;refine ZO (S:=fun W=>W.cell? ⟨I,off+i,O⟩=E (gS s)) hm c0 (fun c=>?_);refine tkl [0,1,2,3,4,5,6,7,8,9,10,11,12,13,14,15,16] ?_;refine zV kr ?_ _;rw[two_dig aF];have xd:=f.drew;generalize wr.drew=w2 at *;go_wp2;refine ZO (S:=fun W=>W.cell? ⟨I,off+i,O⟩=E (gS s)) hm c (fun c=>?_);refine tkl [0,1,2,3,4,5,6,7,8,9,10,11,12,13,14,15,16] ?_;refine zV kr ?_ _;rw[two_dig A];have xe:=xd.drew;generalize w2.drew=w3 at *;have ai:=zf (tail_four s);obtain⟨sx,hsx⟩:∃sx,s.extract 4 s.size=sx:=⟨_,rfl⟩;have ae:=zf (fun W=>plainNo_any F.out ha W);have ah:=zf (fun W (M:Ext w W)=>zjN (s.data.toList.drop 4) 9 9 W (zh _) (ax.below M) dc dc dc dc);have a7:=zf (fun W=>auditNo_any F.out ha W 9 ⟨#[]⟩ ⟨#[63]⟩);rw[<-ai.out,hsx]at ae ah a7;clear ai;go_wp2_with fail
   refine(ae.out w3).mono ?_;rintro e w4 ⟨rfl,o⟩;have x4:=xe.trans (Xh o);clear o;go_wp2_with fail
   refine(ah.out w4 (x1.trans x4)).mono ?_;rintro e l ⟨B,p⟩;unfold zaj at B;rw[F.out]at B;simp only[resV]at B;subst B;have n6:=zC l (cl #[it Xb 0,V O 0 0,gS ⟨#[]⟩,it Xb 0,gS ⟨#[]⟩] 30);have x6:Ext Z (l.alloc (cl #[it Xb 0,V O 0 0,gS ⟨#[]⟩,it Xb 0,gS ⟨#[]⟩] 30)):=(x4.trans (Xh p)).alloc _;clear p;go_wp2_with fail
   generalize World.alloc _ _=C at *;generalize l.heap.size=g6 at *;refine(a7.out C).mono ?_;rintro e w7 ⟨rfl,q⟩;have x7:Ext C w7:=Xh q;obtain⟨r0,r1,r2,aK,r4⟩:=five_cells n6 x7;have x8:=x6.trans x7;clear q;go_wp2;go_roundw
   case rel=>exact⟨i+1,om,by go_num,x8⟩
   case measure=>simp[intOf];omega
  ·have aI:¬((i:Int)<29):=om;go_wp2;refine with_strs (P:=fun W=>Code.wp _ _ _ _ W) badL rfl ?_;intro wb R xb;have ay:=x1.trans (f.trans xb);generalize wr.heap.size=J at *;have a9:=zf ay;obtain⟨_,_,aH,ar⟩:=R;cases aH;have a8:=zf ar;clear ar f ay xb HR a0 ab;go_loopw [19] (fun U wr=>∃j:Nat,j<=14/\U=it Xb (j:Nat)/\Ext wb wr) (fun U _=>(14-intOf U).toNat)
   case atStart=>exact⟨0,om,rfl,Xe _⟩
   case round=>
    obtain⟨j,_,rfl,f⟩:=hrel;by_cases aJ:j<14
    ·obtain⟨I,off,aG,-,r⟩:=a8.out dc;cases aG;have t:j<badL.length:=aJ;have u:=zg t;obtain⟨au,_⟩:=bad_no _ (zJ t);have c:=f.cell (r j _ u);rw[qt]at c;have ad:=zf au;generalize badL[j]=s at *;clear u r au;have az:Hid (∀W,Calls pg 8 #[it Xb (IntKind.i64.wrap (1+(X:Int))),gS s,gS ⟨#[49]⟩] W fun e w'=>e=Xa (tp #[gS ⟨#[]⟩,it Xb 2])/\Below W.heap.size W w'):=fun W=>by
      rw[wrap_m om om];exact planesCalc_of _ _ _ _ _ W (calc_unread _ om om s ⟨#[49]⟩ om dc (.inl ad.out) W)
     have aA:Hid (∀W,Calls pg 8 #[it Xb (IntKind.i64.wrap (1+(X:Int))),gS ⟨#[49]⟩,gS s] W fun e w'=>e=Xa (tp #[gS ⟨#[]⟩,it Xb 2])/\Below W.heap.size W w'):=fun W=>by
      rw[wrap_m om om];exact planesCalc_of _ _ _ _ _ W (calc_unread _ om om ⟨#[49]⟩ s dc om (.inr ad.out) W)
     have aB:Hid (∀W,Calls pg 8 #[it Xb (IntKind.i64.wrap (7+(k2:Int))),gS s,gS ⟨#[49]⟩] W fun e w'=>e=Xa (tp #[gS ⟨#[]⟩,it Xb 1])/\Below W.heap.size W w'):=fun W=>by
      rw[wrap_n om om];exact planesCalc_of _ _ _ _ _ W (calc_none _ (.inr om) s ⟨#[49]⟩ W)
     go_wp2;refine ZO (S:=fun W=>W.cell? (Xd J j O)=E (gS s)) hm c (fun c=>?_);refine tkl [0,3,4,5,6] ?_;refine rd1 1 fun K d=>?_;go_simp;refine(D.out _).mono ?_;rintro e W ⟨rfl,rfl⟩;go_wp2_with fail
     refine d.out _ _ c (h:=fun c=>?_);clear d K;refine tkv 2 ?_;refine rd1 7 fun K d=>?_;go_simp;refine(az.out _).mono ?_;rintro e v1 ⟨rfl,m⟩;have v:Ext _ v1:=Xh m;have c:=v.cell c;clear m;go_wp2_with fail
     refine d.out _ _ c (h:=fun c=>?_);clear d K;refine tkl [8,9,10,11,12] ?_;refine zV kr ?_ _;have z:=f.drew.trans v;go_wp2;refine ZO (S:=fun W=>W.cell? (Xd J j O)=E (gS s)) hm c (fun c=>?_);refine tkl [0,3,4,5,6] ?_;refine rd1 1 fun K d=>?_;go_simp;refine(D.out _).mono ?_;rintro e W ⟨rfl,rfl⟩;go_wp2_with fail
     refine d.out _ _ c (h:=fun c=>?_);clear d K;refine tkv 2 ?_;refine rd1 7 fun K d=>?_;go_simp;refine(aA.out _).mono ?_;rintro e v2 ⟨rfl,A⟩;have x:Ext _ v2:=Xh A;have c:=x.cell c;clear A;go_wp2_with fail
     refine d.out _ _ c (h:=fun c=>?_);clear d K;refine tkl [8,9,10,11,12] ?_;refine zV kr ?_ _;have z:=z.drew.trans x;go_wp2;refine ZO (S:=fun W=>W.cell? (Xd J j O)=E (gS s)) hm c (fun c=>?_);refine tkl [0,3,4,5,6] ?_;refine rd1 1 fun K d=>?_;go_simp;refine(aa.out _).mono ?_;rintro e W ⟨rfl,rfl⟩;go_wp2_with fail
     refine d.out _ _ c (h:=fun c=>?_);clear d K;refine tkv 2 ?_;refine rd1 7 fun K d=>?_;go_simp;refine(aB.out _).mono ?_;rintro e v3 ⟨rfl,al⟩;have y:Ext _ v3:=Xh al;have c:=y.cell c;clear al;go_wp2_with fail
     refine d.out _ _ c (h:=fun c=>?_);clear d K;refine tkl [8,9,10,11,12] ?_;refine zV kr ?_ _;have z:=z.drew.trans y;go_wp2;go_roundw
     case rel=>exact⟨j+1,om,by go_num,z⟩
     case measure=>simp[intOf];omega
    ·have aI:¬((j:Int)<14):=om;have xs:=a9.out.trans f;clear f a9 a8 D aa;go_wp2_with fail
     refine(aD.out _ xs).mono ?_;rintro e w4 ⟨a1,a2,a3,a4,a5,a6,l1,l2,l3,l4,l5,l6,c1,c2,c3,c4,c5,c6,_,mx,_,rfl,L,o⟩;have xt:=xs.trans ((Xh o).alloc (cl #[V a1 l1 c1,V a2 l2 c2,V a3 l3 c3,V a4 l4 c4,V a5 l5 c5,V a6 l6 c6] 41));have k:=zf L;obtain⟨q0,v,x,y,q4,q5⟩:=za9 L.box (Xe _);clear L o xs;go_wp2_with fail
     generalize World.alloc _ _=W4 at *;generalize w4.heap.size=g4 at *;refine(k.out.text W4 (Xe _)).mono ?_;rintro e l ⟨rfl,p⟩;have y5:Ext W4 l:=Xh p;clear p q0 v x y q4 q5;go_wp2_with fail
     refine(k.out.no (-1) 5 l (.inl dc) dc dc dc dc y5).mono ?_;rintro e C ⟨rfl,an⟩;have y6:=y5.trans ((Xh an).alloc (cl #[it Xb 0,V O 0 0,gS ⟨#[]⟩,it Xb 0,gS ⟨#[]⟩] 30));clear an;go_wp2_with fail
     generalize World.alloc _ _=W6 at *;generalize C.heap.size=g6 at *;refine(k.out.no 5 (-1) W6 (.inr dc) dc dc dc dc y6).mono ?_;rintro e w7 ⟨rfl,q⟩;have y7:=y6.trans ((Xh q).alloc (cl #[it Xb 0,V O 0 0,gS ⟨#[]⟩,it Xb 0,gS ⟨#[]⟩] 30));clear q;go_wp2_with fail
     generalize World.alloc _ _=W7 at *;generalize w7.heap.size=g7 at *;refine(k.out.found W7 y7).mono ?_;rintro e w8 ⟨pa,pl,pc,rfl,hG,ap⟩;obtain⟨n8,y8,h8⟩:=res_box mx (y7.trans (Xh ap)) hG;obtain⟨r0,r1,r2,aK,r4⟩:=five_cells n8 (Xe _);obtain⟨q0,v,x,y,q4,q5⟩:=za9 k.out.box y8;have aC:=zf (k.out.is _ (V pa pl pc) y8 (zoe h8.list));have HX:=zf (xt.trans y8);clear hG ap h8 n8;go_wp2_with fail
     generalize World.alloc _ _=W8 at *;refine aC.out.mono ?_;rintro e w9 ⟨rfl,aq⟩;have aE:=zf (HX.out.trans (Xh aq));clear aq;go_wp2;go_ret;exact⟨rfl,aE.out⟩
