import Derived.Test.YtnhfdcfnojnofaaGreatDoorAds1Z3
import Derived.Test.YtnhfdcfnojnofaaGreatDoorAds1Z4
open Option renaming none->O,some->E
open Go.Value renaming slice->V,bool->G,string->gS,pointer->pn,tuple->tp,int->it,agg->ag
open Go.Obj renaming cells->cl
open Go renaming World->H
open Go.Proofs.Tryz renaming prog->pg
open Go.Proofs.Tryz
set_option linter.unusedSimpArgs false
set_option linter.unusedVariables false
set_option maxHeartbeats 8000000
set_option maxRecDepth 100000
namespace Go.Proofs.YtnhfdcfnojnofaaGreatDoor
theorem zeN (l:List UInt8)(c:UInt8):Lib.indexByte l c=Lib.index l [c]:=by
 induction l with
 |nil=>rfl
 |cons x r a=>
  simp only[Lib.indexByte,Lib.index,a];by_cases h:x=c
  ·subst h;simp
  ·have a:([c]:List UInt8).isPrefixOf (x::r)=false:=by simp[List.isPrefixOf,Qi h]
   simp[h,a]
theorem zgy (c:UInt8):Lib.cut [] [c]=([],[],false):=rfl
theorem zd8 (c:UInt8)(r:List UInt8):Lib.cut (c::r) [c]=([],r,true):=by
 have h:Lib.index (c::r) [c]=0:=by simp[Lib.index,List.isPrefixOf]
 simp[Lib.cut,h]
theorem zdw {c x:UInt8}(a:x≠c)(r:List UInt8):Lib.cut (x::r) [c]=(x::(Lib.cut r [c]).1,(Lib.cut r [c]).2.1,(Lib.cut r [c]).2.2):=by
 have h:Lib.index (x::r) [c]=if Lib.index r [c]=-1 then -1 else Lib.index r [c]+1:=by
  simp only[Lib.index];have b:([c]:List UInt8).isPrefixOf (x::r)=false:=by simp[List.isPrefixOf,Qi a]
  simp[b]
 by_cases a:Lib.index r [c]=-1
 ·rw[z8 a]at h;simp[Lib.cut,h,a]
 ·rw[zW a]at h;have a:=zcI r [c];have b:0<=Lib.index r [c]:=om;obtain⟨k,hk⟩:∃k:Nat,Lib.index r [c]=(k:Int):=⟨(Lib.index r [c]).toNat,om⟩;rw[hk]at h b;have a:Lib.index (x::r) [c]=((k+1:Nat):Int):=by rw[h];rfl
  simp[Lib.cut,a,hk];omega
theorem zao (c:UInt8)(l:List UInt8):(Lib.cut l [c]).1.length+(Lib.cut l [c]).2.1.length+(if (Lib.cut l [c]).2.2=true then 1 else 0)=l.length:=by
 induction l with
 |nil=>rfl
 |cons x r a=>
  by_cases h:x=c
  ·subst h;rw[zd8];simp
  ·rw[zdw h];simp only[Zo];omega
theorem zb0 {c:UInt8}{l:List UInt8}(h:(Lib.cut l [c]).2.2=false):Lib.cut l [c]=(l,[],false):=by
 induction l with
 |nil=>rfl
 |cons x r b=>
  by_cases a:x=c
  ·subst a;rw[zd8]at h;cases h
  ·rw[zdw a]at h⊢;rw[b h]
theorem zm9 (c:UInt8)(l:List UInt8):∀x∈(Lib.cut l [c]).1,x≠c:=by
 induction l with
 |nil=>simp[zgy]
 |cons y r d=>
  by_cases a:y=c
  ·subst a;rw[zd8];simp
  ·rw[zdw a];intro x b;rcases qw.1 b with h|h
   ·rw[h];exact a
   ·exact d x h
namespace T
def part (c:UInt8)(l:List UInt8):List ByteArray×List UInt8:=l.foldl (fun d x=>if x=c then(d.1 ++ [⟨d.2.toArray⟩],[])else(d.1,d.2 ++ [x])) ([],[])
theorem zhZ (c:UInt8)(l:List UInt8)(x:UInt8):part c (l ++ [x])=if x=c then((part c l).1 ++ [⟨(part c l).2.toArray⟩],[])else((part c l).1,(part c l).2 ++ [x]):=by
 simp[part,List.foldl_append]
theorem ziZ (c:UInt8)(l:List UInt8):(part c l).1.length+(part c l).2.length<=l.length:=by
 have h:∀(l:List UInt8) (d:List ByteArray×List UInt8),(l.foldl (fun d x=>if x=c then(d.1 ++ [(⟨d.2.toArray⟩:ByteArray)],[])else(d.1,d.2 ++ [x])) d).1.length+(l.foldl (fun d x=>if x=c then(d.1 ++ [(⟨d.2.toArray⟩:ByteArray)],[])else(d.1,d.2 ++ [x])) d).2.length<=d.1.length+d.2.length+l.length:=by
  intro l;induction l with
  |nil=>intro d;simp
  |cons x r a=>
   intro d;rw[zbx];refine zL (a _) ?_;split<;>simp<;>omega
 have:=h l ([],[]);simpa[part]using this
theorem zna (c:UInt8)(l:List UInt8):∀(ds:List ByteArray) (a:List UInt8),
 l.foldl (fun d x=>if x=c then(d.1 ++ [(⟨d.2.toArray⟩:ByteArray)],[])else(d.1,d.2 ++ [x])) (ds,a)=
  if (Lib.cut l [c]).2.2=true then(ds++⟨(a++(Lib.cut l [c]).1).toArray⟩::(part c (Lib.cut l [c]).2.1).1,(part c (Lib.cut l [c]).2.1).2)else(ds,a++l):=by
 have f:∀(l:List UInt8) (ds b:List ByteArray) (a:List UInt8),
  l.foldl (fun d x=>if x=c then(d.1 ++ [(⟨d.2.toArray⟩:ByteArray)],[])else(d.1,d.2 ++ [x])) (ds++b,a)=
   (ds++(l.foldl (fun d x=>if x=c then(d.1 ++ [(⟨d.2.toArray⟩:ByteArray)],[])else(d.1,d.2 ++ [x])) (b,a)).1,(l.foldl (fun d x=>if x=c then(d.1 ++ [(⟨d.2.toArray⟩:ByteArray)],[])else(d.1,d.2 ++ [x])) (b,a)).2):=by
  intro l;induction l with
  |nil=>intros;rfl
  |cons x r e=>
   intro ds b a;rw[zbx,zbx];by_cases h:x=c
   ·simp only[h,jo,jI];exact e _ _ _
   ·simp only[h,Jg];exact e _ _ _
 induction l with
 |nil=>intro ds a;simp[zgy]
 |cons x r e=>
  intro ds a;rw[zbx];by_cases h:x=c
  ·subst h;rw[zd8];simp only[jo,Q1];have:=f r (ds ++ [⟨a.toArray⟩]) [] [];rw[Q1]at this;rw[this];simp[part]
  ·simp only[h,Jg];rw[e,zdw h];simp only[jI,Q5,JV]
theorem part_cut (c:UInt8)(l:List UInt8):part c l=if (Lib.cut l [c]).2.2=true then(⟨(Lib.cut l [c]).1.toArray⟩::(part c (Lib.cut l [c]).2.1).1,(part c (Lib.cut l [c]).2.1).2)else([],l):=by
 have:=zna c l [] [];simpa[part]using this
end T
def jQ (l:List UInt8):Bool:=decide (l= [60,61])||(decide (l= [62,61])||decide (l= [61]))
def Jh:Nat->List UInt8->List (List UInt8)
 |0,_=> []
 |f+1,l=>(Lib.cut l [32]).1::(if (Lib.cut l [32]).2.2=true then Jh f (Lib.cut l [32]).2.1 else [])
def qg (l:List UInt8):List (List UInt8):=Jh (l.length+1) l
theorem zjT (f:Nat):∀l:List UInt8,l.length<f->(Jh f l).map (fun x=>(⟨x.toArray⟩:ByteArray))=(T.part 32 l).1 ++ [⟨(T.part 32 l).2.toArray⟩]:=by
 induction f with
 |zero=>intro l h;omega
 |succ f c=>
  intro l h;rw[T.part_cut,Jh];have b:=zao 32 l;by_cases a:(Lib.cut l [32]).2.2=true
  ·rw[z8 a]at b⊢;rw[z8 a,ZF,c _ om];rfl
  ·rw[zW a,zW a,zb0 (by simpa using a)];rfl
theorem zkL (l:List UInt8):(qg l).map (fun x=>(⟨x.toArray⟩:ByteArray))=(T.part 32 l).1 ++ [⟨(T.part 32 l).2.toArray⟩]:=zjT _ l (Nat.lt_succ_self _)
theorem zcJ (f:Nat):∀l:List UInt8,(Jh f l).length<=l.length+1/\∀x∈Jh f l,x.length<=l.length:=by
 induction f with
 |zero=>intro l;simp[Jh]
 |succ f d=>
  intro l;rw[Jh];have a:=zao 32 l;by_cases b:(Lib.cut l [32]).2.2=true
  ·rw[z8 b]at a⊢;obtain⟨_,c⟩:=d (Lib.cut l [32]).2.1;refine⟨by rw[Zo];omega,fun x a=>?_⟩;rcases qw.1 a with h|h
   ·rw[h];omega
   ·have:=c x h;omega
  ·rw[zW b];refine⟨sp,fun x a=>?_⟩;rw[Qo.1 a];omega
def jR:Nat->List UInt8->List (List UInt8×Bool)
 |0,_=> []
 |f+1,l=>if l= []then []else((Lib.cut l [10]).1,(Lib.cut l [10]).2.2)::jR f (Lib.cut l [10]).2.1
def qE (l:List UInt8):List (List UInt8×Bool):=jR l.length l
theorem ze0 (f:Nat):jR f []= []:=by cases f<;>simp[jR]
theorem zjU (f:Nat):∀l:List UInt8,l.length<=f->(jR f l).map (fun x=>((⟨x.1.toArray⟩:ByteArray),x.2))=
 (T.part 10 l).1.map (fun x=>(x,true))++(if (T.part 10 l).2= []then []else [(⟨(T.part 10 l).2.toArray⟩,false)]):=by
 induction f with
 |zero=>
  intro l h;obtain rfl:l= []:=ZP om;rfl
 |succ f e=>
  intro l h;rw[T.part_cut,jR];by_cases b:l= []
  ·subst b;rfl
  ·rw[zW b];have d:=zao 10 l;by_cases a:(Lib.cut l [10]).2.2=true
   ·rw[z8 a]at d⊢;rw[ZF,e _ om];simp[a]
   ·have d:=zb0 (c:=10) (l:=l) (by simpa using a);rw[zW a,d];simp[ze0,b]
theorem zgX (l:List UInt8):(qE l).map (fun x=>((⟨x.1.toArray⟩:ByteArray),x.2))=
 (T.part 10 l).1.map (fun x=>(x,true))++(if (T.part 10 l).2= []then []else [(⟨(T.part 10 l).2.toArray⟩,false)]):=zjU _ l (zh _)
theorem zbd (f:Nat):∀l:List UInt8,(jR f l).length<=l.length/\∀x∈jR f l,x.1.length<=l.length:=by
 induction f with
 |zero=>intro l;simp[jR]
 |succ f e=>
  intro l;rw[jR];by_cases a:l= []
  ·subst a;simp
  ·rw[zW a];have d:=zao 10 l;have b:=Zq.2 a;obtain⟨_,b⟩:=e (Lib.cut l [10]).2.1;have a:(Lib.cut l [10]).2.1.length+1<=l.length:=by
    by_cases a:(Lib.cut l [10]).2.2=true
    ·rw[z8 a]at d;omega
    ·rw[zb0 (c:=10) (l:=l) (by simpa using a)];simp;omega
   refine⟨by rw[Zo];omega,fun x a=>?_⟩;rcases qw.1 a with h|h
   ·rw[h];show(Lib.cut l [10]).1.length<=_;omega
   ·have:=b x h;omega
open Go.RowKit
theorem zdR (s:ByteArray)(w:H):
 Calls pg 320 #[gS s] w fun e w'=>e= .returned (.func (.func 364) #[] #[pn (E ⟨w.heap.size,0,O⟩)])/\w'=w.alloc (cl #[gS s] 9):=by
 go_enter func320,ntmps320
 have a:=JN;go_wp2;go_ret;exact⟨rfl,rfl⟩
theorem zd9 (s t:List UInt8)(q:Nat)(w:H)(h:w.cell? ⟨q,0,O⟩=E (gS ⟨t.toArray⟩)):
 Calls pg 364 #[gS ⟨s.toArray⟩,pn (E ⟨q,0,O⟩)] w fun e w'=>e= .returned (G (decide (s=t)))/\w'=w:=by
 go_enter func364,ntmps364
 go_wp2;go_ret;refine⟨jH ?_,rfl⟩;rw[QD];simp
theorem zi0 (a:Addr)(w:H):
 Calls pg 321 #[pn (E a)] w fun e w'=>e= .returned (.func (.func 365) #[] #[pn (E ⟨w.heap.size,0,O⟩)])/\w'=w.alloc (cl #[pn (E a)] 432):=by
 go_enter func321,ntmps321
 have b:=JN;go_wp2;go_ret;exact⟨rfl,rfl⟩
def zb3 (s:List UInt8):Nat:=if s.length=1 then(if 49<=(s.getD 0 0).toNat/\(s.getD 0 0).toNat<=52 then(s.getD 0 0).toNat-48 else 0)else 0
theorem zhv (s:List UInt8)(q c:Nat)(z:Int)(w:H)(h:w.cell? ⟨q,0,O⟩=E (pn (E ⟨c,0,O⟩)))(g:w.cell? ⟨c,0,O⟩=E (it .i64 z))(a:w.frozen? ⟨c,0,O⟩=false)(hs:s.length<=1000000):
 Calls pg 365 #[gS ⟨s.toArray⟩,pn (E ⟨q,0,O⟩)] w fun e w'=>e= .returned (G (decide (zb3 s≠0)))/\(w'=w\/w'=w.drew.setCell ⟨c,0,O⟩ (it .i64 (zb3 s:Int)))/\(zb3 s≠0->w'.cell? ⟨c,0,O⟩=E (it .i64 (zb3 s:Int))):=by
 by_cases d:s.length=1
 ·obtain⟨x,rfl⟩:∃x,s= [x]:=zcc.1 d;by_cases b:49<=x.toNat/\x.toNat<=52
  ·have a:Tryz.prog.follows .mixedOrders=true:=kr;have a:zb3 [x]=x.toNat-48:=by simp[zb3,b]
   have f:({ data:=#[x] }:ByteArray)[0]'(by simp[ByteArray.size])=x:=rfl;rw[a];obtain⟨n,hn⟩:∃n,x.toNat=n:=⟨_,rfl⟩;rw[hn]at b⊢;have i:IntKind.u8.wrap ((n:Int)-48)=((n-48:Nat):Int):=by
    obtain rfl|rfl|rfl|rfl:n=49\/n=50\/n=51\/n=52:=om
    all_goals rfl
   have i:IntKind.i64.wrap ((n-48:Nat):Int)=((n-48:Nat):Int):=by
    obtain rfl|rfl|rfl|rfl:n=49\/n=50\/n=51\/n=52:=om
    all_goals rfl
   go_enter func365,ntmps365
   go_wp2;go_region
   all_goals go_wp2
   all_goals go_ret
   all_goals refine⟨jH so,.inr rfl,fun _=>zu _ _ _ g⟩
  ·have a:zb3 [x]=0:=by simp[zb3,b]
   rw[a];have f:({ data:=#[x] }:ByteArray)[0]'(by simp[ByteArray.size])=x:=rfl;go_enter func365,ntmps365
   go_wp2;all_goals first
    |(exfalso;omega)
    |(go_ret;first|exact⟨rfl,.inl rfl,fun h=>absurd rfl h⟩|exact⟨rfl,.inl rfl⟩|exact .inl rfl)
 ·have a:zb3 s=0:=by simp[zb3,d]
  rw[a];have a:¬(s.length:Int)=1:=om;go_enter func365,ntmps365
  go_wp2;go_ret;exact⟨rfl,.inl rfl,fun h=>absurd rfl h⟩
theorem jg (a:Addr)(w:H):
 Calls pg 322 #[pn (E a)] w fun e w'=>e= .returned (.func (.func 366) #[] #[pn (E ⟨w.heap.size,0,O⟩)])/\w'=w.alloc (cl #[pn (E a)] 435):=by
 go_enter func322,ntmps322
 have b:=JN;go_wp2;go_ret;exact⟨rfl,rfl⟩
theorem zeq (a:Addr)(w:H):
 Calls pg 324 #[pn (E a)] w fun e w'=>e= .returned (.func (.func 368) #[] #[pn (E ⟨w.heap.size,0,O⟩)])/\w'=w.alloc (cl #[pn (E a)] 440):=by
 go_enter func324,ntmps324
 have b:=JN;go_wp2;go_ret;exact⟨rfl,rfl⟩
theorem zge (s:List UInt8)(q c:Nat)(z:ByteArray)(w:H)(h:w.cell? ⟨q,0,O⟩=E (pn (E ⟨c,0,O⟩)))(d:w.cell? ⟨c,0,O⟩=E (gS z))(i:w.frozen? ⟨c,0,O⟩=false):
 Calls pg 368 #[gS ⟨s.toArray⟩,pn (E ⟨q,0,O⟩)] w fun e w'=>e= .returned (G (jQ s))/\Wr (fun k=>k=c) w w'/\(jQ s=true->∃b,Below w.heap.size w b/\w'=b.setCell ⟨c,0,O⟩ (gS ⟨s.toArray⟩)):=by
 go_enter func368,ntmps368
 go_wp2;obtain⟨a,hw0⟩:∃a,w.alloc (cl #[gS ⟨#[60,61]⟩,gS ⟨#[62,61]⟩,gS ⟨#[61]⟩] 157)=a:=⟨_,rfl⟩;have g:Below w.heap.size w a:=by rw[<-hw0];exact(zR _ _).alloc (zh _) _
 have f:a.cell? ⟨w.heap.size,0,O⟩=E (gS ⟨#[60,61]⟩):=by rw[<-hw0];simp
 have f:a.cell? ⟨w.heap.size,1,O⟩=E (gS ⟨#[62,61]⟩):=by rw[<-hw0];simp
 have f:a.cell? ⟨w.heap.size,2,O⟩=E (gS ⟨#[61]⟩):=by rw[<-hw0];simp
 have f:c<w.heap.size:=zN d;have j:q<w.heap.size:=zN h;have l:=(g.cell (p:=⟨q,0,O⟩) j).trans h;have j:=(g.cell (p:=⟨c,0,O⟩) f).trans d;have d:=(g.frozen (p:=⟨c,0,O⟩) f).trans i;try rw[hw0]
 have d:∀x:List UInt8,s=x->jQ x=true->Wr (fun k=>k=c) w (a.setCell ⟨c,0,O⟩ (gS ⟨x.toArray⟩))/\(jQ s=true->∃b,Below w.heap.size w b/\a.setCell ⟨c,0,O⟩ (gS ⟨x.toArray⟩)=b.setCell ⟨c,0,O⟩ (gS ⟨s.toArray⟩)):=by
  intro x b _;subst b;exact⟨(Wr.of_below (T:=fun k=>k=c) g).setCell (p:=⟨c,0,O⟩) rfl _,fun _=>⟨a,g,rfl⟩⟩
 have i:=zi d;clear d hw0;go_loopw [8] (fun b wr=>∃k:Nat,k<=3/\b=it .i64 (k:Int)/\wr=a/\Hid ((0<k->s≠ [60,61])/\(1<k->s≠ [62,61])/\(2<k->s≠ [61]))) (fun b _=>3-(intOf b).toNat)
 case atStart=>exact⟨0,om,rfl,rfl,om,om,om⟩
 case round=>
  obtain⟨k,_,rfl,rfl,f⟩:=hrel;obtain rfl|rfl|rfl|rfl:k=0\/k=1\/k=2\/k=3:=om
  ·go_wp2
   ·rename_i b
    have a:s= [60,61]:=by simpa using b
    have d:jQ s=true:=by rw[a];rfl
    go_ret;exact⟨by rw[d];rfl,i.out [60,61] a rfl⟩
   ·rename_i b
    have a:s≠ [60,61]:=by simpa using b
    refine⟨⟨1,om,rfl,trivial,?_⟩,by simp[intOf]⟩;exact⟨fun _=>a,om,om⟩
  ·go_wp2
   ·rename_i b
    have a:s= [62,61]:=by simpa using b
    have d:jQ s=true:=by rw[a];rfl
    go_ret;exact⟨by rw[d];rfl,i.out [62,61] a rfl⟩
   ·rename_i b
    have a:s≠ [62,61]:=by simpa using b
    refine⟨⟨2,om,rfl,trivial,?_⟩,by simp[intOf]⟩;exact⟨fun _=>f.out.1 om,fun _=>a,om⟩
  ·go_wp2
   ·rename_i b
    have a:s= [61]:=by simpa using b
    have d:jQ s=true:=by rw[a];rfl
    go_ret;exact⟨by rw[d];rfl,i.out [61] a rfl⟩
   ·rename_i b
    have a:s≠ [61]:=by simpa using b
    refine⟨⟨3,om,rfl,trivial,?_⟩,by simp[intOf]⟩;exact⟨fun _=>f.out.1 om,fun _=>f.out.2.1 om,fun _=>a⟩
  ·have d:jQ s=false:=by simp[jQ,f.out.1 om,f.out.2.1 om,f.out.2.2 om]
   go_wp2;go_ret;exact⟨by rw[d];rfl,Wr.of_below g,fun h=>by rw[d]at h;cases h⟩
end Go.Proofs.YtnhfdcfnojnofaaGreatDoor
namespace Go.Proofs.YtnhfdcfnojnofaaGreatDoor.T
open Go.RowKit
theorem zkm {B:Nat}{a w:H}(h:Below B a w)(q:Nat):Below B a (w.drewN q):=⟨h.os,h.tape,h.output,h.size,h.block⟩
theorem zkn {a b:Nat}:QL a b<=0↔a<=b:=by
 unfold QL;split
 ·omega
 ·split<;>omega
theorem zlS {x D n Q r R a:Nat}(h:D=n*Q+r)(b:R=x+10000*r)(c:n*a<=R):x+10000*D=n*(a+10000*Q)+(R-n*a):=by
 have b:n*(a+10000*Q)=n*a+10000*(n*Q):=by rw[qI,zaS]
 rw[b];omega
theorem zob {x n r:Nat}(b:x<10000)(a:r<n):x+10000*r<n*10000:=om
theorem zi1 {x:Nat}{ds:List Nat}(b:x<10000)(h:Dig ds):Dig (x::ds):=fun d a=>by
 rcases qw.1 a with rfl|a
 ·exact b
 ·exact h d a
theorem mid_bd {b a:Nat}(h:b<a):b<(b+a+1)/2/\(b+a+1)/2<=a:=om
theorem zdq (w:H)(u v:Value)(m n K:Nat)(l:NV w u m)(f:NV w v n)(c:m<10000^K)(d:n<10000^K)(g:n≠0)(a:K<=100000000):
 Calls pg 188 #[u,v] w fun e w'=>∃x y,e= .returned (tp #[x,y])/\NV w' x (m/n)/\NV w' y (m%n)/\Below w.heap.size w w':=by
 obtain⟨i0,W,Z,a0,a1⟩:=qL Tryz.infoInt;obtain⟨h,F,i,j,a⟩:=l;have b:=zaC j (by rw[a];exact c);obtain⟨_,_,rfl,_⟩:=F.shape;have q:=zi a;have s:=zi d;have b:=zi g;clear c d j a g;go_enter func188,ntmps188
 go_wp2;go_loopw [6,7,8] (fun d rv a wr=>∃(k r:Nat) (c:List Nat),k<=h.length/\a=it .i64 ((k:Int)-1)/\NV wr rv r/\Hid (r<n)/\Sl wr d c/\Dig c/\c.length+k=h.length/\Hid (val (h.drop k)=n*val c+r)/\Below w.heap.size w wr) (fun _ _ a _=>(intOf a+1).toNat)
 case atStart=>exact⟨h.length,0,[],zh _,rfl,NV.zero _,by rw[Hid];exact Zm b.out,ziR _,fun d i=>by simp at i,sp,by rw[Hid,Z6 (zh _)];simp[val],zR _ _⟩
 case round=>
  obtain⟨k,r,c,L,rfl,C,o,j,X,_,U,g⟩:=hrel;obtain⟨_,_,rfl,_⟩:=j.shape;cases k with
  |zero=>
   have B:m/n=val c/\m%n=r:=by
    have t:=U.out;rw[Zd,q.out]at t;refine⟨?_,?_⟩;·rw[t,Nat.mul_add_div (Zm b.out),zal o.out,qy]
    ·rw[t,Nat.mul_add_mod,zam o.out]
   have A:=zi B;obtain⟨a,b,D,z,d⟩:=C;obtain⟨J,P,rfl,M⟩:=b.shape;have q:=zi d;clear B d;go_wp2_with fail
   refine(trim_any _ _ c j om).mono ?_;rintro e B ⟨⟨x,rfl,I⟩,rfl⟩;go_wp2;go_ret2;refine⟨x,_,rfl,zd2 I X (by rw[A.out.1]),⟨a,b,D,z,?_⟩,g⟩;rw[q.out,A.out.2]
  |succ k=>
   obtain⟨A,Q,rfl,I,N⟩:=F.row (by intro e;simp[e]at L);have a3:=(g.cell (p:=⟨A,Q+k,O⟩) I).trans (N k om);have I:=i.get k;have a2:=zi (val_drop h k om);generalize h.getD k 0=x at *;obtain⟨a,b,D,z,d⟩:=C;obtain⟨J,P,rfl,M⟩:=b.shape;have q:=zi d;have i:=zaC z (k:=K) (by rw[d];exact Qm o.out s.out);clear d;go_wp2_with (at_builtin;refine qQ _ rfl _ _ 35 rfl wr.heap.size 3 i0 (it .i64 0) 1 8 underlying35 W Z a0 a1 rfl dc (V O 0 0) 0 [] rfl (Ze _ _ _ _) ⟨wr.heap.size,0,O⟩ 1 1 [it .i64 (x:Int)] rfl rfl (Z4 _ _ _) ?c2 mo om sp ?_)
   case c2=>first|rfl|(intro u l;simp at l;subst l;rfl)
   intro d B A C F;obtain⟨J,z,S,_⟩:=owns_parts (ds:= [x]) A F;subst S;have d:=((zR _ _).alloc (zh _) _).grown C sp (fun k i=>by simp[Value.ownBlock]at i);have L:=b.below d;clear C F;go_wp2_with (at_builtin;refine zeo rfl _ _ rfl wr.heap.size d.size (E ⟨J,0,O⟩) z [x] rfl A _ a rfl L so ?_)
   intro N Q R J B;have z:=B wr.heap.size wr d (zh _);have P:Sl R (V N (a.length+1) Q) (x::a):=JC (os:=x::a) J;clear B J A d L;go_wp2_with fail
   refine(trim_any _ _ (x::a) P so).mono ?_;rintro e A ⟨⟨rv,rfl,J⟩,rfl⟩;obtain⟨R,hR⟩:∃R,R=x+10000*r:=⟨_,rfl⟩;have N:NV A rv R:=zd2 J (zi1 I D) (by rw[hR,<-q.out];rfl);have a:R<n*10000:=by rw[hR];exact zob I o.out
   have d:R<10000^(K+1):=by
    rw[ZK];exact zv a (qM _ (Z2 s.out))
   have HR:=zi hR;have o:=zi a;have T:=zi d;have Y:=j.below z;have L:=g.trans (z.mono g.size);have Q:=f.below L;clear hR a d J P z a3 j b M;go_wp2_with fail
   go_loopw [10,11] (fun b f g=>∃(a d:Nat),a<=d/\d<=9999/\b=it .i64 (a:Nat)/\f=it .i64 (d:Nat)/\Hid (n*a<=R)/\Hid (R<n*(d+1))/\Below A.heap.size A g) (fun b f _=>(intOf f-intOf b).toNat)
   case atStart=>exact⟨0,9999,om,om,rfl,rfl,by simp[Hid],o,zR _ _⟩
   case round=>
    obtain⟨a,d,_,a3,rfl,rfl,D,P,f⟩:=hrel;by_cases b:a<d
    ·have g:=mid_bd b;obtain⟨b,hmd⟩:∃b,b=(a+d+1)/2:=⟨_,rfl⟩;rw[<-hmd]at g;have g:((a:Int)+(d:Int)+1)/2=(b:Int):=by rw[hmd];omega
     have g:(a:Int)<(d:Int):=om;have g:=zi hmd;clear hmd;have I:=Q.below f;have A:=N.below f;go_wp2_with fail
     refine(times_any _ _ n b K I om s.out om).mono ?_;rintro e w6 ⟨xv,rfl,J,j⟩;have z:=A.below j;have o:=f.trans (j.mono f.size);have r:n*b<10000^(K+1):=by
      rw[ZK];exact zbc s.out om
     clear j A I;go_wp2_with fail
     refine(compare_any _ _ _ (n*b) R (K+1) J z r T.out om).mono ?_;rintro e g ⟨rfl,M,rfl⟩;have q:=zkm o M;clear r o J z f;by_cases r:n*b<=R
     ·have hz:=zkn.2 r;have M:=zi r;generalize QL (n*b) R=a4 at *;clear r;go_wp2;go_roundw
      case rel=>exact⟨b,d,om,a3,by go_num,rfl,M,P,q⟩
      case measure=>simp[intOf];omega
     ·have hz:0<QL (n*b) R:=by
       rcases Int.lt_or_le 0 (QL (n*b) R)with i|i
       ·exact i
       ·exact absurd (zkn.1 i) r
      have M:=zi r;generalize QL (n*b) R=a4 at *;clear r;go_wp2;go_roundw
      case rel=>exact⟨a,b-1,om,om,rfl,by go_num,D,by rw[Hid,show b-1+1=b by omega];have:=M.out;omega,q⟩
      case measure=>simp[intOf];omega
    ·obtain rfl:a=d:=om;have I:=Q.below f;have A:=N.below f;clear N Q;go_wp2_with fail
     refine(times_any _ _ n a K I om s.out om).mono ?_;rintro e w6 ⟨xv,rfl,J,j⟩;have z:=A.below j;have o:=f.trans (j.mono f.size);clear j A I f;go_wp2_with fail
     refine(zgx _ _ _ R (n*a) (K+1) z J T.out D.out om).mono ?_;rintro e g ⟨_,rfl,r,b⟩;have q:=o.trans (b.mono o.size);have d:=Y.below q;have f:=L.trans (q.mono L.size);clear b o z J Y q L;go_wp2_with (at_builtin;refine qQ _ rfl _ _ 35 rfl g.heap.size 3 i0 (it .i64 0) 1 8 underlying35 W Z a0 a1 rfl dc (V O 0 0) 0 [] rfl (Ze _ _ _ _) ⟨g.heap.size,0,O⟩ 1 1 [it .i64 (a:Int)] rfl rfl (Z4 _ _ _) ?c2 mo om sp ?_)
     case c2=>first|rfl|(intro u l;simp at l;subst l;rfl)
     intro b l j C F;obtain⟨q,o,S,_⟩:=owns_parts (ds:= [a]) j F;subst S;have b:=((zR _ _).alloc (zh _) _).grown C sp (fun k i=>by simp[Value.ownBlock]at i);have l:=d.below b;clear C F d;go_wp2_with (at_builtin;refine zeo rfl _ _ rfl g.heap.size b.size (E ⟨q,0,O⟩) o [a] rfl j _ c rfl l so ?_)
     intro o q s i B;have d:=B g.heap.size g b (zh _);have z:Sl s (V o (c.length+1) q) (a::c):=JC (os:=a::c) i;have s:=r.below d;have q:=f.trans (d.mono f.size);have o:Hid (R-n*a<n):=by
      have t:=P.out;have g:=D.out;rw[qI,Qe]at t;rw[Hid];omega
     have g:Hid (val (h.drop k)=n*val (a::c)+(R-n*a)):=by
      rw[Hid,a2.out];exact zlS U.out HR.out D.out
     clear B i j b l r d f D P;go_wp2;go_roundw
     case rel=>exact⟨k,R-n*a,a::c,om,by go_num,s,o,z,zi1 om X,so,g,q⟩
     case measure=>simp[intOf]
theorem NV.setCell {w:H}{v:Value}{n:Nat}(h:NV w v n){a:Addr}{y:Value}(m:w.cell? a=E y)(l:∀k,y≠it .i64 k)(x:Value):NV (w.setCell a x) v n:=by
 obtain⟨c,b,d⟩:=h;refine⟨c,?_,d⟩;rcases b with b|⟨d,o,e,i,g,f,c,j⟩
 ·exact Or.inl b
 ·refine Or.inr ⟨d,o,e,i,g,by simpa using f,fun i b=>?_,j.setCell _ _⟩;rw[zp _ _ _ _ (by
   intro d;have:=c i b;rw[<-d,m,z7]at this;exact l _ this)]
  exact c i b
theorem NV.slice {w:H}{v:Value}{n:Nat}(h:NV w v n):∃a l cap,v=V a l cap:=by
 obtain⟨_,b,_⟩:=h;obtain⟨a,cap,rfl,_⟩:=b.shape;exact⟨_,_,_,rfl⟩
def qe (w:H)(x:Value)(p:Int)(q:Nat):Prop:=
 ∃b v u,x=ag #[G b,v,u]/\NV w v p.natAbs/\Hid (b=decide (p<0))/\NV w u q/\0<q
theorem qe.below {w w':H}{x:Value}{p:Int}{q:Nat}(h:qe w x p q)(a:Below w.heap.size w w'):qe w' x p q:=by
 obtain⟨b,v,u,c,d,e,f,g⟩:=h;exact⟨b,v,u,c,d.below a,e,f.below a,g⟩
theorem qe.alloc {w:H}{x:Value}{p:Int}{q:Nat}(h:qe w x p q)(o:Obj):qe (w.alloc o) x p q:=h.below ((zR _ _).alloc (zh _) o)
theorem qe.parts {w:H}{x:Value}{p:Int}{q:Nat}(h:qe w x p q):∃b a l cap c e d,x=ag #[G b,V a l cap,V c e d]/\NV w (V a l cap) p.natAbs/\Hid (b=decide (p<0))/\NV w (V c e d) q/\0<q:=by
 obtain⟨b,_,_,i,f,j,g,k⟩:=h;obtain⟨a,l,cap,rfl⟩:=f.slice;obtain⟨c,e,d,rfl⟩:=g.slice;exact⟨b,a,l,cap,c,e,d,i,f,j,g,k⟩
theorem zaH {w:H}{g:Nat}{f b:Bool}{a c:Option Addr}{i d j e:Nat}{v u:Value}{p:Int}{q:Nat}(o:NV w v p.natAbs)(l:Hid (b=decide (p<0)))(n:NV w u q)(m:0<q)
 (h:w.cell? ⟨g,0,O⟩=E (G f)) (h1:w.cell? ⟨g,1,O⟩=E (V a i d)) (k:w.cell? ⟨g,2,O⟩=E (V c j e)):
 qe (((w.setCell ⟨g,0,O⟩ (G b)).setCell ⟨g,1,O⟩ v).setCell ⟨g,2,O⟩ u) (ag #[G b,v,u]) p q:=by
 have f:(w.setCell ⟨g,0,O⟩ (G b)).cell? ⟨g,1,O⟩=E (V a i d):=by rw[zp _ _ _ _ sp];exact h1
 have a:((w.setCell ⟨g,0,O⟩ (G b)).setCell ⟨g,1,O⟩ v).cell? ⟨g,2,O⟩=E (V c j e):=by
  rw[zp _ _ _ _ sp,zp _ _ _ _ sp];exact k
 exact⟨b,v,u,rfl,((o.setCell h sp _).setCell f sp _).setCell a sp _,l,((n.setCell h sp _).setCell f sp _).setCell a sp _,m⟩
theorem zcK {w:H}{a:Option Addr}{l cap n K:Nat}(h:NV w (V a l cap) n)(c:n<10000^K):l<=K/\(l=0↔n=0):=by
 obtain⟨_,d,_,b,rfl⟩:=h;obtain⟨_,_,a,_⟩:=d.shape;simp only[zV]at a;obtain⟨_,rfl,_⟩:=a;refine⟨zaC b c,?_⟩;rw[QM];exact(zmX b).symm
theorem znb (a b:Nat):Nat.gcd b (a%b)=Nat.gcd a b:=by rw[JM b,<-Nat.gcd_rec,JM]
theorem sg_div (a:Bool)(n g:Nat)(h:g ∣ n):sg a n/(g:Int)=sg a (n/g):=by
 cases a;·simp[sg]
 ·simp only[sg,jo];rw[Int.neg_ediv_of_dvd (Int.ofNat_dvd.2 h)];rfl
theorem zoc (a:Bool)(n:Nat):decide (sg a n<0)=(a&&decide (n≠0)):=by
 have h:sg true n<0↔n≠0:=by simp only[sg,jo];omega
 cases a;·simp[sg]
 ·simp[h]
theorem lowest_any (w:H)(g:Bool)(u v:Value)(m n K:Nat)(o:NV w u m)(p:NV w v n)(a:m<10000^K)(c:n<10000^K)(d:n≠0)(L:K<=100000000):
 Calls pg 183 #[G g,u,v] w fun e w'=>∃x,e= .returned x/\qe w' x (sg g m/(Nat.gcd m n:Int)) (n/Nat.gcd m n)/\Below w.heap.size w w':=by
 have F:qk (w.alloc (cl #[G false,V O 0 0,V O 0 0] 118)) w.heap.size (G false) (V O 0 0) (V O 0 0):=qk.new _ _ _ _ _;have b:Below w.heap.size w (w.alloc (cl #[G false,V O 0 0,V O 0 0] 118)):=(zR _ _).alloc (zh _) _;have J:=zi a;have y:=zi c;have q:=zi d;obtain⟨_,_,_,rfl⟩:=o.slice;obtain⟨_,_,_,rfl⟩:=p.slice;clear a c d;go_enter func183,ntmps183
 go_wp2;generalize a:w.alloc (cl #[G false,V O 0 0,V O 0 0] 118)=l at *;go_loopg [7,8] n (fun c r s wr=>∃(a:Nat) (f:Option Addr) (i d:Nat) (k:Option Addr) (j h:Nat),r=V k j h/\s=V f i d/\NV wr (V k j h) a/\NV wr (V f i d) c/\Hid (a<10000^K)/\Hid (c<10000^K)/\Hid (Nat.gcd a c=Nat.gcd m n)/\Below l.heap.size l wr)
 case atStart=>exact⟨m,_,_,_,_,_,_,rfl,rfl,o.below b,p.below b,J,y,rfl,zR _ _⟩
 case round=>
  obtain⟨a,f,i,d,k,j,h,rfl,rfl,j,l,k,A,M,d⟩:=hrel;have B:=zcK l A.out;by_cases c:gk=0
  ·have f:=B.2.2 c;subst f;have r:a=Nat.gcd m n:=by
    have:=M.out;rw[c,zdt]at this;exact this
   have f:0<Nat.gcd m n:=Qn _ (Zm q.out);have I:=zi r;have t:=zi f;have h:=zi (sg_div g m (Nat.gcd m n) (ZY _ _));have P:Hid (0<n/Nat.gcd m n):=zaO (QV (Zm q.out) (ZZ _ _)) f;have C:=(o.below b).below d;have D:=(p.below b).below d;have z:=F.below d;have s:=b.trans (d.mono b.size);clear c r f B l A;go_wp2_with fail
   refine(zdq _ _ _ m a K C j J.out k.out (by rw[I.out];exact Jv.1 t.out) L).mono ?_;rintro e w2 ⟨x2,y2,rfl,p,q,b⟩;obtain⟨F,f,r,rfl⟩:=p.slice;obtain⟨p2,k2,Z,rfl⟩:=q.slice;have R:=j.below b;have U:=D.below b;have T:=z.below b;have o:=s.trans (b.mono s.size);clear b C D z s q j;go_wp2_with fail
   refine(zdq _ _ _ n a K U R y.out k.out (by rw[I.out];exact Jv.1 t.out) L).mono ?_;rintro e w3 ⟨_,_,rfl,D,W,z⟩;obtain⟨Y,X,Q,rfl⟩:=D.slice;obtain⟨_,_,_,rfl⟩:=W.slice;have N:=p.below z;have C:=T.below z;have S:=o.trans (z.mono o.size);obtain⟨s,t,y,_,_,_,_⟩:=C;have C:=zcK N (zr (Qh m a) J.out);rw[I.out]at D N C;clear z U R T o W p k;have z:=zoc g (m/Nat.gcd m n);have J:Hid (NV w3 (V F f r) (sg g m/(Nat.gcd m n:Int)).natAbs):=by
    rw[Hid,h.out,zbn];exact N
   cases g with
   |false=>
    have I:Hid (false=decide (sg false m/(Nat.gcd m n:Int)<0)):=by rw[Hid,h.out,z];rfl
    clear z h;go_wp2;exact zH (v:=ag #[G false,V F f r,V Y X Q]) (by simp[results,results183,go_sem,s,t,y]) rfl ⟨_,rfl,zaH J.out I D P.out s t y,
     ((S.setCell sp _).setCell sp _).setCell sp _⟩
   |true=>
    have I:Hid (decide (0<f)=decide (sg true m/(Nat.gcd m n:Int)<0)):=by
     rw[Hid,h.out,z,ZE];exact Q8.2 ⟨fun g e=>by have:=C.2.2 e;omega,fun g=>Zm fun e=>g (C.2.1 e)⟩
    clear z h C;go_wp2;exact zH (v:=ag #[G (decide (0<f)),V F f r,V Y X Q]) (by simp[results,results183,go_sem,s,t,y]) rfl ⟨_,rfl,zaH J.out I D P.out s t y,
     ((S.setCell sp _).setCell sp _).setCell sp _⟩
  ·have h:(0:Int)<(i:Int):=by have:=fun g=>c (B.2.1 g);omega
   have g:Hid (Nat.gcd gk (a%gk)=Nat.gcd m n):=by rw[Hid,znb];exact M.out
   have h:Hid (a%gk<10000^K):=zr (Nat.mod_le _ _) k.out;have i:Hid (a%gk<gk):=Qx _ (Zm c);go_wp2_with fail
   refine(zdq _ _ _ a gk K j l k.out A.out c L).mono ?_;rintro e w2 ⟨x2,y2,rfl,p,q,b⟩;obtain⟨F,f,r,rfl⟩:=p.slice;obtain⟨p2,k2,Z,rfl⟩:=q.slice;have f:=l.below b;have o:=d.trans (b.mono d.size);clear b l j d B c M;go_wp2;go_roundg (a%gk)
   case measure=>exact i.out
   case rel=>exact⟨gk,_,_,_,_,_,_,rfl,rfl,f,q,A,h,g,o⟩
end Go.Proofs.YtnhfdcfnojnofaaGreatDoor.T
namespace Go.Proofs.YtnhfdcfnojnofaaGreatDoor
open Go.RowKit
theorem znc {x D S T B:Nat}(a:B=S*T)(b:0<S)(d:0<T)(e:x<B):((x+B*(D%B))/S)%B+B*(D/S)=(x+B*D)/S:=by
 subst a;have a:∀h,(x+S*T*h)/S=x/S+T*h:=fun h=>by
  rw[ZD,zcL _ _ b]
 have c:=(j9 b).2 (by rw[Qg];exact e);rw[a,a,Qg S T,Nat.mod_mul];have a:(x/S+T*(D%(T*S)))%T=x/S:=by rw[zaa,zam c]
 have b:(x/S+T*(D%(T*S)))/T=D%(T*S):=by rw[zcL _ _ d,zal c,qi]
 rw[a,b,Nat.mod_mod_of_dvd _ (Nat.dvd_mul_left S T)];have a:=Nat.mod_add_div D S;have b:T*(D%S)+T*S*(D/S)=T*D:=by
  rw[ZD,<-qI,a]
 omega
theorem zlT {a ds:List Nat}{k S T:Nat}(c:4294967296=S*T)(d:0<S)(e:0<T)(b:k<a.length)(h:k<ds.length)(f:Dig ds)(g:val (a.drop (k+1))=val (ds.drop (k+1))/S):
 val ((a.set k (((ds.getD k 0+4294967296*(val (ds.drop (k+1))%4294967296))/S)%4294967296)).drop k)=val (ds.drop k)/S:=by
 rw[val_drop _ k (by rw[Zf];exact b),zbk _ _ _ b,QN,g,val_drop ds k h];exact znc c d e (f.get k)
theorem ziq (w:H)(b c cap s:Nat)(ds:List Nat)(hs:s<=31)(Z:ds.length<=cap)(a1:ds.length<=1073741824)
 (R:Row w b c ds) (P:zbE w b c ds.length) (n:Dig ds):
 Calls pg 313 #[V (E ⟨b,c,O⟩) ds.length cap,it .i64 (s:Nat)] w fun e w'=>
  e= .returned (V (E ⟨b,c,O⟩) ds.length cap)/\∃f,f.length=ds.length/\Dig f/\Row w' b c f/\Upd b c ds.length w w'/\val f=val ds/2^s:=by
 have B:0<2^s:=zac dc;have C:0<2^(32-s):=zac dc;have g:4294967296=2^s*2^(32-s):=by rw[<-ZI,show s+(32-s)=32 by omega]
 obtain⟨S,hS⟩:∃S,2^s=S:=⟨_,rfl⟩;obtain⟨T,hT⟩:∃T,2^(32-s)=T:=⟨_,rfl⟩;rw[hS]at B g;rw[hT]at C g;clear hT;have v:=zi hS;clear hS;have J:=zi g;clear g;go_enter func313,ntmps313
 go_wp2;go_loopw [5,6] (fun M t wr=>∃(k a:Nat) (d:List Nat),k<=ds.length/\a<18446744073709551616/\t=it .i64 ((k:Int)-1)/\M=it .u64 (a:Nat)/\Hid (d.length=ds.length)/\Dig d/\Row wr b c d/\Upd b c ds.length w wr/\
  Hid (d.take k=ds.take k)/\Hid (a%4294967296=val (ds.drop k)%4294967296)/\Hid (val (d.drop k)=val (ds.drop k)/S)) (fun _ t _=>(intOf t+1).toNat)
 case atStart=>exact⟨ds.length,0,ds,zh _,om,rfl,rfl,rfl,n,R,Upd.refl _ _ _ _,rfl,by simp[Hid,val],by simp[Hid,val]⟩
 case round=>
  obtain⟨k,a,d,_,_,rfl,rfl,l,D,m,r,F,p,j⟩:=hrel;cases k with
  |zero=>
   have x:=zi j.out;simp only[Zd]at x;clear j p;go_wp2;go_ret;exact⟨rfl,d,l.out,D,m,r,by rw[x.out,v.out]⟩
  |succ k=>
   have o:k<d.length:=by rw[l.out];omega
   have U:=m k o;rw[zfz F.out]at U;have W:=n.get k;have a0:=r.free P k om;have q:=zlT J.out B C o (show k<ds.length by omega) n j.out;have I:=val_drop ds k om;rw[<-p.out]at q;have h:=fun z=>m.setCell k z o
   have i:=fun z=>r.setCell k (show k<ds.length by omega) z
   have Q:a%4294967296<4294967296:=Qx _ dc;have K:Hid ((ds.getD k 0+4294967296*(a%4294967296))%4294967296=val (ds.drop k)%4294967296):=by rw[Hid,I,zaa,zaa]
   have a2:=zeI (a%4294967296) (ds.getD k 0) Q W;have hw:IntKind.u64.wrap ((a:Int)*4294967296)=((a%4294967296:Nat):Int)*4294967296:=by
    have e:∀u:Int,IntKind.u64.wrap u=u%18446744073709551616:=fun u=>by simp[IntKind.wrap,IntKind.signed,IntKind.bits]
    rw[e];omega
   have X:ds.getD k 0+4294967296*(a%4294967296)<18446744073709551616:=om;generalize ds.getD k 0=Y at *;generalize a%4294967296=N at *;generalize Y+4294967296*N=y at *;have h:=h (y/S%4294967296);have i:=i (it .u32 ((y/S%4294967296:Nat):Int));have A:((y/S%4294967296:Nat):Int)=(y:Int)/2^s%4294967296:=by rw[<-v.out];simp
   rw[A]at h i;have L:=zi q;clear I p j A q;go_wp2;go_roundw
   case rel=>exact⟨k,y,_,om,X,by go_num,rfl,by rw[Hid,Zf,l.out],D.set _ _ (Qx _ dc),h,i,by rw[Hid,zgi];exact zhS F.out,K,L.out⟩
   case measure=>simp[intOf]
end Go.Proofs.YtnhfdcfnojnofaaGreatDoor
