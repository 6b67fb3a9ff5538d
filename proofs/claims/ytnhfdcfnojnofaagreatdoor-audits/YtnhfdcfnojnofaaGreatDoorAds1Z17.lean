import Derived.Test.YtnhfdcfnojnofaaGreatDoorAds1Z15
open Option renaming none->O,some->E
open Go.Value renaming slice->V,bool->G,string->gS,tuple->tp,int->it,agg->ag
open Go.Obj renaming cells->cl
open Go renaming World->H
open Go.Proofs.Tryz renaming prog->pg
open Go.Proofs.Tryz
set_option linter.unusedSimpArgs false
set_option linter.unusedVariables false
set_option maxHeartbeats 2000000
set_option maxRecDepth 100000
namespace Go.Proofs.YtnhfdcfnojnofaaGreatDoor.T
open Go.RowKit
def zdd (s:ByteArray):Value:=gS s
def Sv (w:H)(v:Value)(ls:List ByteArray):Prop:=
 (v=V O 0 0/\ls= [])\/∃g off cap,v=V (E ⟨g,off,O⟩) ls.length cap/\ls.length<=cap/\g<w.heap.size/\∀i,i<ls.length->w.cell? ⟨g,off+i,O⟩=E (gS (ls.getD i ⟨#[]⟩))
theorem Sv.below {w w':H}{v:Value}{a:List ByteArray}(h:Sv w v a)(b:Below w.heap.size w w'):Sv w' v a:=by
 rcases h with h|⟨g,c,d,e,f,a,j⟩
 ·exact Or.inl h
 ·exact Or.inr ⟨g,c,d,e,f,zv a b.size,fun i d=>(b.cell (p:=⟨g,c+i,O⟩) a).trans (j i d)⟩
theorem Tryz.infoStr:(Tryz.prog.info? 9).map (fun i=>(i.zero,i.size,i.bytes))=E (E (gS ⟨#[]⟩),1,16):=kr
theorem ze5 {w:H}{base:Nat}{b:Option Addr}{c:Nat}{a:List ByteArray}(h:w.ownsRow base 9 1 (V b a.length c) a.length (a.map zdd)):Sv w (V b a.length c) a:=by
 have a:=h;obtain⟨_,b|⟨g,_,_,d,_,_,e,_,_,_⟩⟩:=h
 ·left
  refine⟨b.1,?_⟩;have c:=b.1;simp only[zV]at c;exact QM.1 c.2.1
 ·simp only[zV]at d;obtain⟨rfl,_,rfl⟩:=d;refine Or.inr ⟨g,0,_,rfl,e,(zbb a).2,fun i b=>?_⟩;have:=a.cellAt i om;rw[qi,this,zQ,zj b,zk,zj b];rfl
theorem zet {w wr c:H}{g:Option Addr}{j:Nat}{a:List ByteArray}{x:ByteArray}{f:Value}{o:Obj}(m:wr.ownsRow w.heap.size 9 1 (V g a.length j) a.length (a.map zdd))(d:Below w.heap.size w wr)
 (e:c.ownsRow w.heap.size 9 1 f (a.length+1) (a.map zdd ++ [gS x])) (k:(wr.alloc o).grownBy c (V g a.length j).ownBlock) (l:f≠V O 0 0):
 ∃b,b=a ++ [x]/\b.length=a.length+1/\∃h i,f=V (E ⟨i,0,O⟩) b.length h/\c.ownsRow w.heap.size 9 1 (V (E ⟨i,0,O⟩) b.length h) b.length (b.map zdd)/\Below w.heap.size w c:=by
 have b:a.map zdd ++ [gS x]=(a ++ [x]).map zdd:=by simp[zdd]
 rw[b]at e;have c:=e;obtain⟨_,f|⟨g,b,_,h,_,_,_,_,_,_⟩⟩:=e;·exact absurd f.1 l
 ·subst h;refine⟨_,rfl,sp,b,g,sp,?_,?_⟩;·rw[show(a ++ [x]).length=a.length+1 by simp];exact c
  ·exact(d.alloc d.size _).grown k (by have:=d.size;simp;omega) (fun k h=>(m.lt k h).1)
theorem zfJ (l:List UInt8)(i:Nat)(h:i<l.length):l.take (i+1)=l.take i ++ [l[i]]:=by
 rw[Zh h]
theorem zi9 {s:ByteArray}{i:Nat}(h:i<s.size):s.extract i (i+1)=⟨#[s[i]]⟩:=by
 apply ze2 (l:= [s[i]]);rw[QP,show i+1-i=1 by omega];have a:i<s.data.toList.length:=by rw[qN];exact h
 rw[Zn a];simp;rfl
theorem zh3 (s:ByteArray)(w:H)(hs:s.size<=1000000000):
 Calls pg 113 #[gS s] w fun e w'=>∃x,e= .returned x/\Sv w' x ((part 32 s.data.toList).1 ++ [⟨(part 32 s.data.toList).2.toArray⟩])/\(∀g,x.ownBlock=E g->w.heap.size<=g)/\Below w.heap.size w w':=by
 obtain⟨K,B,F,I,J⟩:=qL Tryz.infoStr;have a:=qN s;go_enter func113,ntmps113
 go_wp2;go_loopw [3,4,5] (fun h j c wr=>∃(i:Nat) (a:List ByteArray) (b:ByteArray) (f:Option Addr) (d:Nat),i<=s.size/\h=V f a.length d/\j=gS b/\c=it .i64 (i:Nat)/\b.size<=s.size/\a.length<=s.size/\
  Hid (part 32 (s.data.toList.take i)=(a,b.data.toList))/\wr.ownsRow w.heap.size 9 1 (V f a.length d) a.length (a.map zdd)/\Below w.heap.size w wr) (fun _ _ c _=>((s.size:Int)-intOf c).toNat)
 case atStart=>exact⟨0,[],⟨#[]⟩,O,0,om,rfl,rfl,rfl,qp _,qp _,rfl,Ze _ _ _ _,zR _ _⟩
 case round=>
  obtain⟨i,a,b,f,d,_,rfl,rfl,rfl,_,P,l,k,h⟩:=hrel;by_cases C:i<s.size
  ·have c:(i:Int)<(s.size:Int):=om;have o:Hid (part 32 (s.data.toList.take (i+1))=if s[i]=32 then(a ++ [b],[])else(a,b.data.toList ++ [s[i]])):=by
    have e:s.data.toList[i]' om=s[i]:=rfl;rw[Hid,zfJ _ i om,zhZ,l.out,e]
   have n:=zi (ziZ 32 (s.data.toList.take (i+1)));by_cases z:(s[i].toNat:Int)=32
   ·have j:s[i]=32:=JY (show s[i].toNat=32 by omega);have c:=o.out;rw[z8 j]at c;have q:=zi c;have D:a.length+1<=s.size:=by
     have:=n.out;rw[c,zU]at this;simp at this;omega
    clear c o j n l;go_wp2_with (at_builtin;refine qQ _ rfl _ _ 44 rfl w.heap.size 9 K (gS ⟨#[]⟩) 1 16 underlying44 B F I J rfl dc (V f a.length d) a.length (a.map zdd) rfl (k.alloc _) ⟨wr.heap.size,0,O⟩ 1 1 [gS b] rfl rfl (Z4 _ _ _) ?c2 mo om (by have:=h.size;simp;omega) ?_)
    case c2=>first|rfl|(intro R m;simp at m;subst m;rfl)
    intro S T y t v;obtain⟨L,u,N,A,M,rfl,p,r⟩:=zet k h y t v;go_wp2;go_roundw
    case rel=>exact⟨i+1,L,⟨#[]⟩,_,A,om,rfl,rfl,by go_num,qp _,om,by rw[Hid,q.out,u],p,r⟩
    case measure=>simp[intOf];omega
   ·have j:s[i]≠32:=by intro e;rw[e]at z;exact z rfl
    have c:=o.out;rw[zW j]at c;have q:=zi c;have D:b.size+1<=s.size:=by
     have:=n.out;rw[c,zU]at this;simp only[zX,Zo,jL,qN]at this;omega
    have z:=zi (zi9 C);have Q:(s.extract i (i+1)).size=1:=by rw[z.out];rfl
    clear c o j n l;go_wp2;go_roundw
    case rel=>exact⟨i+1,a,_,_,d,om,rfl,rfl,by go_num,by rw[ByteArray.size_append,Q];exact D,P,by rw[Hid,q.out,z.out];first|rfl|(congr 1;simp),k,h⟩
    case measure=>simp[intOf];omega
  ·obtain rfl:i=s.size:=om;have c:=l.out;rw[zy om]at c;have i:=zi c;clear c l C;go_wp2_with (at_builtin;refine qQ _ rfl _ _ 44 rfl w.heap.size 9 K (gS ⟨#[]⟩) 1 16 underlying44 B F I J rfl dc (V f a.length d) a.length (a.map zdd) rfl (k.alloc _) ⟨wr.heap.size,0,O⟩ 1 1 [gS b] rfl rfl (Z4 _ _ _) ?c2 mo om (by have:=h.size;simp;omega) ?_)
   case c2=>first|rfl|(intro R m;simp at m;subst m;rfl)
   intro S T y t v;obtain⟨L,u,N,A,M,rfl,p,r⟩:=zet k h y t v;go_wp2;go_ret;refine⟨_,rfl,?_,fun g a=>(p.lt g a).1,r⟩;rw[i.out];have a:=ze5 p;rw[u]at a⊢;exact a
theorem zh4 (s:ByteArray)(w:H)(hs:s.size<=1000000000):
 Calls pg 111 #[gS s] w fun e w'=>∃x,e= .returned (tp #[x,G (decide ((part 10 s.data.toList).2= []))])/\Sv w' x (if (part 10 s.data.toList).2= []then(part 10 s.data.toList).1 else(part 10 s.data.toList).1 ++ [⟨(part 10 s.data.toList).2.toArray⟩])/\(∀g,x.ownBlock=E g->w.heap.size<=g)/\Below w.heap.size w w':=by
 obtain⟨Q,I,M,N,P⟩:=qL Tryz.infoStr;have a:=qN s;obtain⟨B,A,hpp⟩:∃B A,part 10 s.data.toList=(B,A):=⟨_,_,rfl⟩;rw[hpp];have D:=zi hpp;clear hpp;simp only;go_enter func111,ntmps111
 go_wp2;go_loopw [4,5,6] (fun d f c wr=>∃(i:Nat) (a:List ByteArray) (b:ByteArray) (j:Option Addr) (h:Nat),i<=s.size/\d=V j a.length h/\f=gS b/\c=it .i64 (i:Nat)/\b.size<=s.size/\a.length<=s.size/\
  Hid (part 10 (s.data.toList.take i)=(a,b.data.toList))/\wr.ownsRow w.heap.size 9 1 (V j a.length h) a.length (a.map zdd)/\Below w.heap.size w wr) (fun _ _ c _=>((s.size:Int)-intOf c).toNat)
 case atStart=>exact⟨0,[],⟨#[]⟩,O,0,om,rfl,rfl,rfl,qp _,qp _,rfl,Ze _ _ _ _,zR _ _⟩
 case round=>
  obtain⟨i,a,b,j,h,_,rfl,rfl,rfl,_,T,m,d,f⟩:=hrel;by_cases J:i<s.size
  ·have c:(i:Int)<(s.size:Int):=om;have p:Hid (part 10 (s.data.toList.take (i+1))=if s[i]=10 then(a ++ [b],[])else(a,b.data.toList ++ [s[i]])):=by
    have e:s.data.toList[i]' om=s[i]:=rfl;rw[Hid,zfJ _ i om,zhZ,m.out,e]
   have o:=zi (ziZ 10 (s.data.toList.take (i+1)));by_cases C:(s[i].toNat:Int)=10
   ·have k:s[i]=10:=JY (show s[i].toNat=10 by omega);have c:=p.out;rw[z8 k]at c;have r:=zi c;have K:a.length+1<=s.size:=by
     have:=o.out;rw[c,zU]at this;simp at this;omega
    clear c p k o m;go_wp2_with (at_builtin;refine qQ _ rfl _ _ 44 rfl w.heap.size 9 Q (gS ⟨#[]⟩) 1 16 underlying44 I M N P rfl dc (V j a.length h) a.length (a.map zdd) rfl (d.alloc _) ⟨wr.heap.size,0,O⟩ 1 1 [gS b] rfl rfl (Z4 _ _ _) ?c2 mo om (by have:=f.size;simp;omega) ?_)
    case c2=>first|rfl|(intro W n;simp at n;subst n;rfl)
    intro X Y z u y;obtain⟨R,v,L,F,S,rfl,q,t⟩:=zet d f z u y;go_wp2;go_roundw
    case rel=>exact⟨i+1,R,⟨#[]⟩,_,F,om,rfl,rfl,by go_num,qp _,om,by rw[Hid,r.out,v],q,t⟩
    case measure=>simp[intOf];omega
   ·have k:s[i]≠10:=by intro e;rw[e]at C;exact C rfl
    have c:=p.out;rw[zW k]at c;have r:=zi c;have K:b.size+1<=s.size:=by
     have:=o.out;rw[c,zU]at this;simp only[zX,Zo,jL,qN]at this;omega
    have C:=zi (zi9 J);have U:(s.extract i (i+1)).size=1:=by rw[C.out];rfl
    clear c p k o m;go_wp2;go_roundw
    case rel=>exact⟨i+1,a,_,_,h,om,rfl,rfl,by go_num,by rw[ByteArray.size_append,U];exact K,T,by rw[Hid,r.out,C.out];first|rfl|(congr 1;simp),d,f⟩
    case measure=>simp[intOf];omega
  ·obtain rfl:i=s.size:=om;have c:=m.out;rw[zy om]at c;rw[D.out,zdG]at c;obtain⟨i,k⟩:=c;obtain rfl:a=B:=i.symm;obtain rfl:b.data.toList=A:=k.symm;clear D m J i k;by_cases i:b=⟨#[]⟩
   ·subst i;have c:=ze5 d;go_wp2;go_ret2;exact⟨_,rfl,c,fun g k=>(d.lt g k).1,f⟩
   ·have m:=zgE i;have m:b.data.toList≠ []:=fun e=>i (ze2 (l:= []) e)
    go_wp2_with (at_builtin;refine qQ _ rfl _ _ 44 rfl w.heap.size 9 Q (gS ⟨#[]⟩) 1 16 underlying44 I M N P rfl dc (V j a.length h) a.length (a.map zdd) rfl (d.alloc _) ⟨wr.heap.size,0,O⟩ 1 1 [gS b] rfl rfl (Z4 _ _ _) ?c2 mo om (by have:=f.size;simp;omega) ?_)
    case c2=>first|rfl|(intro W n;simp at n;subst n;rfl)
    intro X Y z u y;obtain⟨R,v,L,F,S,rfl,q,t⟩:=zet d f z u y;go_wp2;go_ret2;have c:=ze5 q;rw[L,v]at c;refine⟨_,rfl,?_,fun g k=>(q.lt g k).1,t⟩;first|exact c|(rw[zW m];exact c)
end Go.Proofs.YtnhfdcfnojnofaaGreatDoor.T
namespace Go.Proofs.YtnhfdcfnojnofaaGreatDoor
open Go.RowKit
theorem zkW (w:H)(x y:Value)(z t:Int)(K:Nat)(U:K<=1073741823)(h:zY w x z)(k:zY w y t)(hz:z.natAbs<4294967296^K)(ht:t.natAbs<4294967296^K):
 Calls pg 150 #[x,y] w fun e w'=>∃s,e= .returned s/\zY w' s (z-t)/\Below w.heap.size w w':=by
 obtain⟨c,b,l,g,rfl,hv,Z⟩:=h.parts;obtain⟨f,d,m,i,rfl,a4,a0⟩:=k.parts;have a3:(-t).natAbs<4294967296^K:=by rw[QX];exact ht
 have n:=J4 w (cl #[G c,V b l g] 101) (cl #[G f,V d m i] 101) (cl #[G false,V O 0 0] 101);have W:=h.below n;have Y:=k.below n;have B:qX (((w.alloc (cl #[G c,V b l g] 101)).alloc (cl #[G f,V d m i] 101)).alloc (cl #[G false,V O 0 0] 101)) w.heap.size (G c) (V b l g):=((qX.new _ _ _ _).alloc _).alloc _;have F:qX (((w.alloc (cl #[G c,V b l g] 101)).alloc (cl #[G f,V d m i] 101)).alloc (cl #[G false,V O 0 0] 101)) (w.heap.size+1) (G f) (V d m i):=(qX.new1 _ _ _ _ _).alloc _;have L:qX (((w.alloc (cl #[G c,V b l g] 101)).alloc (cl #[G f,V d m i] 101)).alloc (cl #[G false,V O 0 0] 101)) (w.heap.size+1+1) (G false) (V O 0 0):=qX.new2 _ _ _ _ _ _;clear hv Z a4 a0;go_enter func150,ntmps150
 go_wp2;go_region_held (fun w'=>w'.cell? ⟨w.heap.size,0,O⟩=E (G c)/\w'.cell? ⟨w.heap.size,1,O⟩=E (V b l g)/\w'.cell? ⟨w.heap.size+1,0,O⟩=E (G f)/\w'.cell? ⟨w.heap.size+1,1,O⟩=E (V d m i)) (first|(refine⟨?_,?_,?_,?_⟩<;>(rw[far,far]<;>first|assumption|omega))|go_keep) (first|(go_at_call 203;refine(zep _ _ _ z (-t) K U X T hz a3).mono ?_;rintro e wB ⟨_,rfl,r,j⟩;obtain⟨Q,P,l2,k2,rfl,_,_⟩:=r.parts;have D:=o.below j;obtain⟨_,_,_,_,_⟩:=D;have J:=p.below j;obtain⟨_,_,_,_,_⟩:=J;have q:=M.below j;have N:=q;obtain⟨R,S,_,_,_⟩:=N;have a1:=u.trans (j.mono u.size))|(go_at_call 209;refine(zeC _ _ t (by exact Y)).mono ?_;rintro e A ⟨_,rfl,T,a⟩;have X:=W.drewN 1 |>.below a;have o:=B.drew.below a;have C:=o;obtain⟨_,_,_,_,_⟩:=C;have p:=F.drew.below a;have I:=p;obtain⟨_,_,_,_,_⟩:=I;have M:=L.drew.below a;have u:Below w.heap.size w A:=n.trans (c:=A) ⟨a.os,a.tape,a.output,by have:=a.size;simpa using this,fun k hk=>a.block k so⟩))
 all_goals go_wp2
 all_goals exact zH (v:=ag #[G Q,V P l2 k2]) (by simp[results,results150,go_sem,R,S]) rfl ⟨_,rfl,by rw[Int.sub_eq_add_neg];exact r.stored q,(a1.setCell so _).setCell so _⟩
end Go.Proofs.YtnhfdcfnojnofaaGreatDoor
