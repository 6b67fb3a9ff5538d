import Derived.Test.YtnhfdcfnojnofaaGreatDoorAds1Z16
import Derived.Test.YtnhfdcfnojnofaaGreatDoorAds1Z17
open Option renaming none->O,some->E
open Go.Value renaming slice->V,bool->G,string->gS,tuple->tp,int->it,agg->ag
open Go.Obj renaming cells->cl
open Go renaming World->H
open Go.Proofs.Tryz renaming prog->pg
open Go.Proofs.Tryz
set_option linter.unusedSimpArgs false
set_option linter.unusedVariables false
set_option maxHeartbeats 2000000
set_option maxRecDepth 100000
namespace Go.Proofs.YtnhfdcfnojnofaaGreatDoor.T
open Go.RowKit
def wOk (l:List UInt8):Bool:=decide (∀c∈l,c≠47)&&rOk l
def wZ (l:List UInt8):Int:=sg (Lib.hasPrefix l [45]) (qd (Lib.trimPrefix l [45]))
theorem zja {l:List UInt8}{c:UInt8}(h:c∈Lib.trimPrefix l [45]):c∈l:=by
 unfold Lib.trimPrefix at h;split at h
 ·exact QO h
 ·exact h
theorem zhA {l:List UInt8}(h:∀c∈l,c≠47):rP l=wZ l/\rQ l=1/\rA l=qd (Lib.trimPrefix l [45])/\rOk l=okD (Lib.trimPrefix l [45]) 40:=by
 have a:=zgD _ (fun c a=>h c (zja a));have b:rA l=qd (Lib.trimPrefix l [45]):=by unfold rA;rw[a]
 have d:rD l=1:=by unfold rD zcR;rw[a];rfl
 refine⟨?_,?_,b,?_⟩
 ·unfold rP wZ;rw[b,d,J5];simp
 ·unfold rQ;rw[d,J5]
 ·unfold rOk zaP;rw[a];simp
theorem zis (s:ByteArray)(w:H)(hs:s.size<=9223372036854775807):
 Calls pg 191 #[gS s,it .i64 40] w fun e w'=>∃b a l cap c j d,e= .returned (tp #[ag #[G b,V a l cap,V c j d],G (wOk s.data.toList)])/\
  (wOk s.data.toList=true->qe w' (ag #[G b,V a l cap,V c j d]) (wZ s.data.toList) 1)/\Below w.heap.size w w':=by
 have u:qk (w.alloc (cl #[G false,V O 0 0,V O 0 0] 118)) w.heap.size (G false) (V O 0 0) (V O 0 0):=qk.new _ _ _ _ _;have f:Below w.heap.size w (w.alloc (cl #[G false,V O 0 0,V O 0 0] 118)):=(zR _ _).alloc (zh _) _;have n:=zi (fun W=>zoi s W hs);obtain⟨L,hL⟩:∃L,s.data.toList=L:=⟨_,rfl⟩;have g:L.length=s.size:=by rw[<-hL];exact qN s
 have m:Hid (∀(I:Nat) (h:I<s.size),s[I]=L[I]' om):=by
  rw[Hid];intro I h;subst hL;rfl
 rw[hL]at n⊢;clear hL;generalize g:w.alloc (cl #[G false,V O 0 0,V O 0 0] 118)=i at *;go_enter func191,ntmps191
 go_wp2;clear g;go_loop [6] (fun v=>∃k:Nat,k<=s.size/\v=it .i64 (k:Nat)/\Hid (∀i (h:i<k) (t:i<L.length),L[i]≠47)) (fun v=>((s.size:Int)-intOf v).toNat)
 case atStart=>exact⟨0,om,rfl,by rw[Hid];intro i h;omega⟩
 case round=>
  obtain⟨k,_,rfl,g⟩:=hrel;by_cases p:k<s.size
  ·have o:(k:Int)<(s.size:Int):=om;have o:=m.out k p;by_cases v:(s[k].toNat:Int)=47
   ·have m:Hid (wOk L=false):=by
     have p:L[k]' om=47:=by
      rw[<-o];exact JY (show s[k].toNat=47 by omega)
     rw[Hid,wOk,ZB (fun h=>h _ (zZ om) p),zag]
    obtain⟨p,q,r,x,y,z,A⟩:=u;clear o g n;go_wp2;exact zH (v:=tp #[ag #[G false,V O 0 0,V O 0 0],G false]) (by simp[results,results191,go_sem,p,q,r]) rfl (by first|exact⟨false,O,0,0,O,0,0,by rw[m.out],fun h=>absurd (m.out.symm.trans h) dc,Z9 f (zh _) _ _ _⟩|exact Or.inl ⟨O,0,0,O,0,0,by rw[m.out],fun h=>absurd (m.out.symm.trans h) dc,Z9 f (zh _) _ _ _⟩)
   ·have m:Hid (∀i (h:i<k+1) (t:i<L.length),L[i]≠47):=by
     rw[Hid];intro i h t;by_cases B:i=k
     ·subst B;rw[<-o];intro e;rw[e]at v;exact v rfl
     ·exact g.out i om t
    clear o g n;go_wp2;go_round
    case rel=>exact⟨k+1,om,by go_num,m⟩
    case measure=>simp[intOf];omega
  ·obtain rfl:k=s.size:=om;have k:∀m∈L,m≠47:=by
    intro m m;obtain⟨i,o,rfl⟩:=QS m;exact g.out i om o
   obtain⟨m,o,_,_⟩:=zhA k;have i:Hid (rOk L=wOk L):=by rw[Hid,wOk,qH k,ZE]
   have t:=zi m;have v:=zi o;clear g m o k;go_wp2_with fail
   refine(n.out _).mono ?_;rintro e g ⟨b,a,l,cap,c,j,d,rfl,k,g⟩;rw[t.out,v.out,i.out]at k;rw[i.out];have i:=u.below g;have m:=f.trans (g.mono f.size);have n:=i;obtain⟨p,q,r,x,y,z,A⟩:=n;clear g u f;go_wp2;exact zH (v:=tp #[ag #[G b,V a l cap,V c j d],G (wOk L)]) (by simp[results,results191,go_sem,p,q,r]) rfl ⟨b,a,l,cap,c,j,d,rfl,fun h=>(k h).stored i,Z9 m (zh _) _ _ _⟩
structure Tri where
 b:Bool
 u:Option Addr×Nat×Nat
 d:Option Addr×Nat×Nat
def Tri.up (t:Tri):Value:=V t.u.1 t.u.2.1 t.u.2.2
def Tri.down (t:Tri):Value:=V t.d.1 t.d.2.1 t.d.2.2
def Tri.val (t:Tri):Value:=ag #[G t.b,t.up,t.down]
def Tri.cells (t:Tri):List Value:= [G t.b,t.up,t.down]
def Zj (ts:List Tri):List Value:=ts.flatMap Tri.cells
theorem zjb (ts:List Tri)(i:Nat)(t:Tri)(h:ts[i]? =E t):(Zj ts)[i*3]? =E (G t.b)/\(Zj ts)[i*3+1]? =E t.up/\(Zj ts)[i*3+2]? =E t.down:=by
 induction ts generalizing i with
 |nil=>simp at h
 |cons x ts a=>
  cases i with
  |zero=>
   simp at h;subst h;simp[Zj,Tri.cells]
  |succ i=>
   have:=a i (by simpa using h);have e:Zj (x::ts)=G x.b::x.up::x.down::Zj ts:=rfl;rw[e,show(i+1)*3=i*3+1+1+1 by omega];simpa using this
theorem Tryz.infoNum:(Tryz.prog.info? 118).map (fun i=>(i.zero,i.size,i.bytes))=E (E (ag #[G false,V O 0 0,V O 0 0]),3,56):=kr
def Qj (w:H)(v:Value)(zs:List (Int×Nat)):Prop:=
 ∃ts:List Tri,ts.length=zs.length/\(∀(i:Nat) (t:Tri) (z:Int×Nat),ts[i]? =E t->zs[i]? =E z->qe w t.val z.1 z.2)/\
  ((v=V O 0 0/\ts= [])\/∃g off cap,v=V (E ⟨g,off,O⟩) ts.length cap/\ts.length<=cap/\g<w.heap.size/\∀(i:Nat) (t:Tri),ts[i]? =E t->w.cell? ⟨g,off+i*3,O⟩=E (G t.b)/\w.cell? ⟨g,off+i*3+1,O⟩=E t.up/\w.cell? ⟨g,off+i*3+2,O⟩=E t.down)
theorem Qj.below {w w':H}{v:Value}{zs:List (Int×Nat)}(h:Qj w v zs)(a:Below w.heap.size w w'):Qj w' v zs:=by
 obtain⟨d,b,c,f⟩:=h;refine⟨d,b,fun i t z d e=>(c i t z d e).below a,?_⟩;rcases f with f|⟨g,c,j,d,e,b,k⟩
 ·exact Or.inl f
 ·refine Or.inr ⟨g,c,j,d,e,zv b a.size,fun i t j=>?_⟩;obtain⟨d,e,f⟩:=k i t j;exact⟨(a.cell (p:=⟨g,c+i*3,O⟩) b).trans d,(a.cell (p:=⟨g,c+i*3+1,O⟩) b).trans e,(a.cell (p:=⟨g,c+i*3+2,O⟩) b).trans f⟩
theorem zbO {w:H}{base:Nat}{a:Option Addr}{b:Nat}{ts:List Tri}{zs:List (Int×Nat)}(h:w.ownsRow base 118 3 (V a ts.length b) ts.length (Zj ts))(c:ts.length=zs.length)(d:∀(i:Nat) (t:Tri) (z:Int×Nat),ts[i]? =E t->zs[i]? =E z->qe w t.val z.1 z.2):Qj w (V a ts.length b) zs:=by
 refine⟨ts,c,d,?_⟩;have a:=h;obtain⟨_,b|⟨g,_,_,d,_,_,e,_,_,_⟩⟩:=h
 ·left
  refine⟨b.1,?_⟩;have c:=b.1;simp only[zV]at c;exact QM.1 c.2.1
 ·simp only[zV]at d;obtain⟨rfl,_,rfl⟩:=d;refine Or.inr ⟨g,0,_,rfl,e,(a.lt g rfl).2,fun i t b=>?_⟩;have c:=(zn.1 b).1;obtain⟨c,d,e⟩:=zjb ts i t b;rw[qi];exact⟨(a.cellAt (i*3) om).trans c,(a.cellAt (i*3+1) om).trans d,(a.cellAt (i*3+2) om).trans e⟩
theorem zap (w:H)(t:Tri)(a:TypeId):∀(j:Nat) (u:Value),t.cells[j]? =E u->(w.alloc (cl #[G t.b,t.up,t.down] a)).cell? ((⟨w.heap.size,0,O⟩:Addr).add j)=E u:=by
 intro j u a;match j,a with
 |0,a=>simp[Tri.cells]at a;subst a;simp[Addr.add]
 |1,a=>simp[Tri.cells]at a;subst a;simp[Addr.add]
 |2,a=>simp[Tri.cells]at a;subst a;simp[Addr.add]
 |j+3,a=>simp[Tri.cells]at a
theorem zhB (t:Tri):∀u∈t.cells,u.oneCell'=true:=by
 intro u a;simp only[Tri.cells,qw,Zi,QF]at a;rcases a with rfl|rfl|rfl<;>rfl
theorem zl5 {w wr b:H}{f:Option Addr}{i:Nat}{ts:List Tri}{x:Tri}{e:Value}{o:Obj}(l:wr.ownsRow w.heap.size 118 3 (V f ts.length i) ts.length (Zj ts))(c:Below w.heap.size w wr)
 (d:b.ownsRow w.heap.size 118 3 e (ts.length+1) (Zj ts++x.cells)) (j:(wr.alloc o).grownBy b (V f ts.length i).ownBlock) (k:e≠V O 0 0):
 ∃a,a=ts ++ [x]/\a.length=ts.length+1/\∃g h,e=V (E ⟨h,0,O⟩) a.length g/\b.ownsRow w.heap.size 118 3 (V (E ⟨h,0,O⟩) a.length g) a.length (Zj a)/\Below w.heap.size w b:=by
 have e:Zj ts++x.cells=Zj (ts ++ [x]):=by simp[Zj]
 rw[e]at d;have b:=d;obtain⟨_,e|⟨g,a,_,f,_,_,_,_,_,_⟩⟩:=d;·exact absurd e.1 k
 ·subst f;refine⟨_,rfl,sp,a,g,sp,?_,?_⟩;·rw[show(ts ++ [x]).length=ts.length+1 by simp];exact b
  ·exact(c.alloc c.size _).grown j (by have:=c.size;simp;omega) (fun k h=>(l.lt k h).1)
theorem Sv.shape {w:H}{v:Value}{a:List ByteArray}(h:Sv w v a):∃b cap,v=V b a.length cap:=by
 rcases h with ⟨rfl,rfl⟩|⟨_,_,cap,rfl,_⟩
 ·exact⟨O,0,rfl⟩
 ·exact⟨_,_,rfl⟩
theorem Sv.row {w:H}{c:Option Addr}{l cap:Nat}{a:List ByteArray}(h:Sv w (V c l cap) a)(e:a≠ []):∃g b,c=E ⟨g,b,O⟩/\g<w.heap.size/\∀i,i<a.length->w.cell? ⟨g,b+i,O⟩=E (gS (a.getD i ⟨#[]⟩)):=by
 rcases h with ⟨h,rfl⟩|⟨g,b,_,a,_,c,d⟩
 ·exact absurd rfl e
 ·simp only[zV]at a;obtain⟨rfl,_,_⟩:=a;exact⟨g,b,rfl,c,d⟩
theorem znt {a:Type}{f:a->Bool}{l:List a}(i:Nat)(d:a)(h:i<l.length):(l.take (i+1)).all f=((l.take i).all f&&f (l.getD i d)):=by
 rw[Zh h,Jj,zk,zj h];simp
theorem zl6 {a:Type}{f:a->Bool}{l:List a}(i:Nat)(d:a)(h:i<l.length)(b:f (l.getD i d)=false):l.all f=false:=by
 rw[QT];refine⟨l[i],zZ h,?_⟩;rw[zk,zj h]at b;simpa using b
theorem zb1 {w w':H}{base e size n:Nat}{v:Value}{b:List Value}(h:w.ownsRow base e size v n b)(a:Below w.heap.size w w'):w'.ownsRow base e size v n b:=by
 refine h.kept (row:=O) ⟨a.os,a.tape,a.output,a.size,fun k b _=>a.block k b⟩ ?_;by_cases a:v.ownBlock=O
 ·exact Or.inl a
 ·exact Or.inr a
theorem NV.grown {w w':H}{row:Option Nat}{v:Value}{n:Nat}(h:NV w v n)(c:w.grownBy w' row)(i:∀g,row=E g->¬QE w g):NV w' v n:=by
 obtain⟨a,b,d⟩:=h;refine⟨a,?_,d⟩;rcases b with b|⟨g,l,d,k,f,e,j,a⟩
 ·exact Or.inl b
 ·have b:=c.block g e (fun e=>i g e.symm a);have e:=c.size;refine Or.inr ⟨g,l,d,k,f,om,fun i c=>(zP (w:=w) b).trans (j i c),?_⟩;obtain⟨c,d,a⟩:=a;exact⟨c,d,b.trans a⟩
theorem qe.grown {w w':H}{row:Option Nat}{x:Value}{p:Int}{q:Nat}(h:qe w x p q)(a:w.grownBy w' row)(b:∀g,row=E g->¬QE w g):qe w' x p q:=by
 obtain⟨c,v,u,d,e,f,i,j⟩:=h;exact⟨c,v,u,d,e.grown a b,f,i.grown a b,j⟩
theorem JG {w:H}{base e size n:Nat}{v:Value}{a:List Value}(h:w.ownsRow base e size v n a)(d:e≠3):∀g,v.ownBlock=E g->¬QE w g:=by
 intro g a b;obtain⟨_,_,b⟩:=b;obtain⟨_,c|⟨_,_,_,i,_,f,_⟩⟩:=h;·rw[c.1]at a;simp[Value.ownBlock]at a
 ·rw[i]at a;simp[Value.ownBlock]at a;subst a;rw[f]at b;simp only[z7,zcS]at b;exact d b.2.1
theorem zbf (w:H)(v:Value)(b:List ByteArray)(d:Sv w v b)(c:∀l∈b,l.size<=1000000000)(a:b.length<=1000000):
 Calls pg 200 #[v] w fun e w'=>∃x,e= .returned (tp #[x,G (b.all fun l=>wOk l.data.toList)])/\((b.all fun l=>wOk l.data.toList)=true->Qj w' x (b.map fun l=>(wZ l.data.toList,1))/\∀g,x.ownBlock=E g->w.heap.size<=g)/\((b.all fun l=>wOk l.data.toList)=false->x=V O 0 0)/\Below w.heap.size w w':=by
 obtain⟨i0,Q,Y,a1,a2⟩:=qL Tryz.infoNum;obtain⟨_,_,rfl⟩:=d.shape;obtain⟨M,a⟩:∃M,(b.all fun l=>wOk l.data.toList)=M:=⟨_,rfl⟩;have X:=zi a;rw[a];clear a;have h:=zi c;clear c;go_enter func200,ntmps200
 go_wp2;go_loopw [4,5] (fun i c wr=>∃(a:List Tri) (u:Option Addr) (A:Nat),i=V u a.length A/\c=it .i64 (a.length:Nat)/\a.length<=b.length/\wr.ownsRow w.heap.size 118 3 (V u a.length A) a.length (Zj a)/\
  Hid (∀(i:Nat) (t:Tri),a[i]? =E t->qe wr t.val (wZ (b.getD i ⟨#[]⟩).data.toList) 1)/\Hid (((b.take a.length).all fun l=>wOk l.data.toList)=true)/\Below w.heap.size w wr) (fun _ c _=>((b.length:Int)-intOf c).toNat)
 case atStart=>exact⟨[],O,0,rfl,rfl,sp,Ze _ _ _ _,by rw[Hid];intro i t o;simp at o,rfl,zR _ _⟩
 case round=>
  obtain⟨a,u,A,rfl,rfl,_,R,D,F,r⟩:=hrel;by_cases c:a.length<b.length
  ·obtain⟨g,k,rfl,T,j⟩:=d.row (by intro e;rw[e]at c;simp at c);have d:=(r.cell (p:=⟨g,k+a.length,O⟩) T).trans (j a.length c);have j:(b.getD a.length ⟨#[]⟩).size<=1000000000:=by
    rw[zk,zj c];exact h.out _ (zZ c)
   have K:=zi (znt (f:=fun l:ByteArray=>wOk l.data.toList) a.length ⟨#[]⟩ c);have J:=zi (fun o=>zl6 (f:=fun l:ByteArray=>wOk l.data.toList) a.length ⟨#[]⟩ c o);obtain⟨C,hs⟩:∃C,b.getD a.length ⟨#[]⟩=C:=⟨_,rfl⟩;rw[hs]at d j K J;have HS:=zi hs;clear hs;have L:=zi (fun W=>zis C W om);by_cases I:wOk C.data.toList=true
   ·have s:=L.out;simp only[I,zbP]at s;have S:=zi s;have a4:Hid (((b.take (a.length+1)).all fun l=>wOk l.data.toList)=true):=by rw[Hid,K.out,F.out,I];rfl
    clear s L J K F I;go_wp2_with fail
    refine(S.out _).mono ?_;rintro e B ⟨c,k,n,m,d,j,h,rfl,P,y⟩;obtain⟨x,hxe⟩:∃x:Tri,x=⟨c,(k,n,m),(d,j,h)⟩:=⟨_,rfl⟩;have U:=(zb1 R y).alloc (cl #[G c,V k n m,V d j h] 118);have z:=r.trans (y.mono r.size);have a0:=z.alloc z.size (cl #[G c,V k n m,V d j h] 118);have a7:=P.alloc (cl #[G c,V k n m,V d j h] 118);have a3:Hid (∀(i:Nat) (t:Tri),a[i]? =E t->qe (B.alloc (cl #[G c,V k n m,V d j h] 118)) t.val (wZ (b.getD i ⟨#[]⟩).data.toList) 1):=fun i t o=>((D.out i t o).below y).alloc _
    have q:∀(N:Nat) (W:Value),x.cells[N]? =E W->((B.alloc (cl #[G c,V k n m,V d j h] 118)).alloc (cl #[G c,V k n m,V d j h] 118)).cell? ((⟨B.heap.size+1,0,O⟩:Addr).add N)=E W:=by
     have N:=zap (B.alloc (cl #[G c,V k n m,V d j h] 118)) x 118;subst hxe;simpa[Tri.up,Tri.down]using N
    have W:x.cells.length=1*3:=by rw[hxe];rfl
    have Z:=zi q;have a5:=zi hxe;clear q hxe D R r z P y;go_wp2_with (at_builtin;refine qQ _ rfl _ _ 200 rfl w.heap.size 118 i0 (ag #[G false,V O 0 0,V O 0 0]) 3 56 underlying200 Q Y a1 a2 rfl dc (V u a.length A) a.length (Zj a) rfl (U.alloc _) ⟨B.heap.size+1,0,O⟩ 1 1 x.cells rfl W Z.out (zhB x) mo om (by have:=a0.size;simp at this⊢;omega) ?_)
    intro q q a2 P a1;have W:=JG (U.alloc (cl #[G c,V k n m,V d j h] 118)) dc;have Y:Hid (∀(i:Nat) (t:Tri),(a ++ [x])[i]? =E t->qe q t.val (wZ (b.getD i ⟨#[]⟩).data.toList) 1):=by
     intro i t q;by_cases a6:i<a.length
     ·rw[zM a6]at q;exact((a3.out i t q).alloc _).grown P W
     ·have a3:i=a.length:=by
       have:=(zn.1 q).1;simp at this;omega
      subst a3;rw[zJ (zh _),Zy]at q;have a3:x=t:=by simpa using q
      rw[HS.out,<-a3,a5.out];exact(a7.alloc _).grown P W
    obtain⟨a9,a8,a3,a5,_,rfl,a7,a6⟩:=zl5 U a0 a2 P a1;rw[<-a8]at Y;clear P a1 a2 W Z;go_wp2;go_roundw
    case rel=>exact⟨a9,_,a5,rfl,by rw[a3];go_num,om,a7,Y,by rw[a3];exact a4,a6⟩
    case measure=>simp[intOf];omega
   ·have P:wOk C.data.toList=false:=by simpa using I
    have C:Hid (M=false):=by rw[Hid,<-X.out];exact J.out P
    have s:=L.out;simp only[P]at s;have S:=zi s;clear s L J K F I P D;go_wp2_with fail
    refine(S.out _).mono ?_;rintro e B ⟨c,k,n,m,d,j,h,rfl,_,y⟩;have z:=r.trans (y.mono r.size);go_wp2;go_ret2;exact⟨_,by rw[C.out];rfl,fun o=>absurd (C.out.symm.trans o) dc,fun _=>rfl,z.alloc z.size _⟩
  ·have c:Hid (a.length=b.length):=by rw[Hid];omega
   have C:Hid (M=true):=by
    have:=F.out;rw[c.out,zy (zh _)]at this;rw[Hid,<-X.out];exact this
   have h:Qj wr (V u a.length A) (b.map fun l=>(wZ l.data.toList,1)):=by
    refine zbO R (by simp[c.out]) ?_;intro i t z q d;have Q:i<b.length:=by
     have:=(zn.1 q).1;have:=c.out;omega
    rw[zQ,zj Q]at d;simp only[Zz,z7]at d;subst d;have N:=D.out i t q;rw[zk,zj Q]at N;exact N
   have c:=zi h;have b:Hid (∀g,(V u a.length A).ownBlock=E g->w.heap.size<=g):=fun g T=>(R.lt g T).1
   clear h F D;go_wp2;go_ret2;exact⟨_,by rw[C.out];rfl,fun _=>⟨c.out,b.out⟩,fun o=>absurd (C.out.symm.trans o) dc,r⟩
def toldL (zs:List (Int×Nat)):List UInt8:=zs.flatMap fun z=>32::fracText z.1 z.2
def varB (c:UInt8):Nat:=if 49<=c.toNat/\c.toNat<=52 then c.toNat-48 else 0
def zbC (ls:List (List UInt8)):Nat:=if ls.length=2/\ls.getD 0 []= [118,97,114,115]/\(ls.getD 1 []).length=1 then varB ((ls.getD 1 []).getD 0 0)else 0
theorem varB_le (c:UInt8):varB c<=4:=by
 unfold varB;split<;>omega
theorem znu (w:H)(v:Value)(f:List ByteArray)(d:Sv w v f)(k:f.length<=1000000)(i:∀l∈f,l.size<=1000000000):
 Calls pg 199 #[v] w fun e w'=>e= .returned (it .i64 (zbC (f.map fun l=>l.data.toList):Nat))/\w'=w:=by
 obtain⟨_,_,rfl⟩:=d.shape;by_cases h:f.length=2
 ·obtain⟨a,b,rfl⟩:∃a b,f= [a,b]:=by
   match f,h with
   |[a,b],_=>exact⟨a,b,rfl⟩
  obtain⟨g,j,rfl,_,c⟩:=d.row sp;have m:w.cell? ⟨g,j,O⟩=E (gS a):=c 0 sp;have m:w.cell? ⟨g,j+1,O⟩=E (gS b):=c 1 sp;have g:=i b sp;clear c i d k h;simp only[ZF,jE,Zo,jL];by_cases i:(a.toList == [118,97,114,115])=true
  ·have j:a.data.toList= [118,97,114,115]:=by rw[<-ZT];simpa using i
   by_cases k:b.size=1
   ·obtain⟨c,hc⟩:∃c,b.data.toList= [c]:=zcc.1 (by rw[qN];exact k);have d:0<b.size:=om;have g:=znk (l:= []) (ze2 hc) d;have d:Hid (zbC [a.data.toList,b.data.toList]=varB c):=by
     rw[Hid,zbC,hc,j,z8 ⟨rfl,rfl,rfl⟩];rfl
    have m:c.toNat<256:=c.toNat_lt;have m:(b.size:Int)=1:=om;have n:b[0].toNat=c.toNat:=by rw[g]
    clear j hc g;by_cases g:c.toNat<49
    ·have g:Hid (varB c=0):=by rw[Hid,varB,zW om]
     go_enter func199,ntmps199
     go_wp2;go_ret;exact⟨by rw[d.out,g.out];rfl,rfl⟩
    ·by_cases n:52<c.toNat
     ·have g:Hid (varB c=0):=by rw[Hid,varB,zW om]
      go_enter func199,ntmps199
      go_wp2;go_ret;exact⟨by rw[d.out,g.out];rfl,rfl⟩
     ·have g:Hid ((c.toNat:Int)-48=(varB c:Nat)):=by rw[Hid,varB,z8 om];omega
      go_enter func199,ntmps199
      go_wp2;go_ret;exact⟨QW (by rw[d.out,<-g.out]),rfl⟩
   ·have d:Hid (zbC [a.data.toList,b.data.toList]=0):=by
     rw[Hid,zbC,zW];rintro⟨_,_,c⟩;exact k (by rw[<-qN b];exact c)
    have m:(b.size:Int)≠1:=om;clear j;go_enter func199,ntmps199
    go_wp2;go_ret;exact⟨by rw[d.out];rfl,rfl⟩
  ·have d:Hid (zbC [a.data.toList,b.data.toList]=0):=by
    rw[Hid,zbC,zW];rintro⟨_,h,_⟩;have c:a.data.toList= [118,97,114,115]:=h;exact i (by rw[ZT,c];rfl)
   have j:(a.toList == [118,97,114,115])=false:=by simpa using i
   clear i;go_enter func199,ntmps199
   go_wp2;go_ret;exact⟨by rw[d.out];rfl,rfl⟩
 ·have d:Hid (zbC (f.map fun l=>l.data.toList)=0):=by
   rw[Hid,zbC,zW];rintro⟨a,_⟩;exact h (by simpa using a)
  have a:(f.length:Int)≠2:=om;go_enter func199,ntmps199
  go_wp2;go_ret;exact⟨by rw[d.out];rfl,rfl⟩
end Go.Proofs.YtnhfdcfnojnofaaGreatDoor.T
namespace Go.Proofs.YtnhfdcfnojnofaaGreatDoor
structure qo where
 n:Nat
 mx:List Int
 rg:List (Int×Int)
 rows:List (List Int×List UInt8×Int)
def qo.none:qo:=⟨0,[],[],[]⟩
def zbv:List UInt8:= [109,97,120]
def za4:List UInt8:= [114,97,110,103,101]
def zcT:List UInt8:= [114,111,119]
def zcU:List UInt8:= [118,97,114,115]
def dOk (l:List UInt8):Bool:=T.okD (Lib.trimPrefix l [45]) 40
def Q2 (i:Nat)(p:qo)(ws:List (List UInt8)):Option qo:=
 if i=0 then(if T.zbC ws=0 then .none else E ⟨T.zbC ws,[],[],[]⟩)
 else if i=1 then(if ws.length=p.n+1/\ws.getD 0 []=zbv/\(ws.drop 1).all dOk=true then E { p with mx:=(ws.drop 1).map T.wZ } else .none)
 else if i<=1+p.n then(if ws.length=3/\ws.getD 0 []=za4/\(ws.drop 1).all dOk=true then E { p with rg:=p.rg ++ [(T.wZ (ws.getD 1 []),T.wZ (ws.getD 2 []))] } else .none)
 else(if p.rows.length<6/\ws.length=p.n+3/\ws.getD 0 []=zcT/\((ws.drop 1).take p.n).all dOk=true/\jQ (ws.getD (p.n+1) [])=true/\dOk (ws.getD (p.n+2) [])=true
  then E { p with rows:=p.rows ++ [(((ws.drop 1).take p.n).map T.wZ,ws.getD (p.n+1) [],T.wZ (ws.getD (p.n+2) []))] } else .none)
def jd:Nat->qo->List (List UInt8×Bool)->Except Nat qo
 |_,p,[]=> .ok p
 |i,p,l::r=>if l.2=false then .error (i+1)else match Q2 i p (qg l.1)with
  |.none=> .error (i+1)
  |some q=>jd (i+1) q r
def jz:Nat->List (Int×Int)->Option Nat
 |_,[]=> .none
 |i,r::rs=>if 7<r.2-r.1 then E i else jz (i+1) rs
def tellS (zs:List Int):List UInt8:=zs.flatMap fun z=>32::Lib.itoa z
def rangeS (r:Int×Int):List UInt8:=za4++tellS [r.1,r.2] ++ [10]
def rowS (r:List Int×List UInt8×Int):List UInt8:=zcT++tellS r.1++32::r.2.1++tellS [r.2.2] ++ [10]
def textS (p:qo):List UInt8:=
 zcU++32::Lib.itoa (p.n:Int) ++ [10]++(zbv++tellS p.mx ++ [10])++p.rg.flatMap rangeS++p.rows.flatMap rowS
def plainS (s:List UInt8):List UInt8×Nat×Nat:=
 if 2000<s.length then([],4,0)
 else match jd 0 qo.none (qE s)with
  |.error k=>([],5,k)
  |.ok p=>if (qE s).length<2+p.n then([],5,(qE s).length+1)else match jz 0 p.rg with
   |some i=>([],6,i+3)
   |.none=>(textS p,0,0)
end Go.Proofs.YtnhfdcfnojnofaaGreatDoor
namespace Go.Proofs.YtnhfdcfnojnofaaGreatDoor.T
open Go.RowKit
def QH (w w':H):Prop:=w.heap.size<=w'.heap.size/\∀k,QE w k->w'.heap[k]? =w.heap[k]?
theorem QE.lt {w:H}{k:Nat}(h:QE w k):k<w.heap.size:=by
 obtain⟨_,_,h⟩:=h;exact(zf.1 h).1
theorem QH.of_below {w w':H}(h:Below w.heap.size w w'):QH w w':=⟨h.size,fun k a=>h.block k a.lt⟩
theorem QH.of_grown {w w':H}{row:Option Nat}(h:w.grownBy w' row)(b:∀g,row=E g->¬QE w g):QH w w':=
 ⟨h.size,fun k a=>h.block k a.lt (fun e=>b k e.symm a)⟩
theorem QH.of_setCell {w:H}{a:Addr}(b:¬QE w a.block)(v:Value):QH w (w.setCell a v):=
 ⟨sp,fun k c=>zK _ _ _ _ (fun e=>b (e▸c))⟩
theorem NV.kept {w w':H}{v:Value}{n:Nat}(h:NV w v n)(b:QH w w'):NV w' v n:=by
 obtain⟨c,a,d⟩:=h;refine⟨c,?_,d⟩;rcases a with a|⟨g,k,d,j,f,e,i,c⟩
 ·exact Or.inl a
 ·have a:=b.2 g c;refine Or.inr ⟨g,k,d,j,f,zv e b.1,fun d b=>?_,?_⟩;·exact(zP (w:=w) a).trans (i d b)
  ·obtain⟨b,d,h⟩:=c;exact⟨b,d,a.trans h⟩
theorem qe.kept {w w':H}{x:Value}{p:Int}{q:Nat}(h:qe w x p q)(a:QH w w'):qe w' x p q:=by
 obtain⟨b,v,u,c,d,e,f,g⟩:=h;exact⟨b,v,u,c,d.kept a,e,f.kept a,g⟩
theorem Qj.kept {w w':H}{v:Value}{zs:List (Int×Nat)}(h:Qj w v zs)(d:QH w w')(k:∀g,v.ownBlock=E g->w'.heap[g]? =w.heap[g]?):Qj w' v zs:=by
 obtain⟨b,a,e,c⟩:=h;refine⟨b,a,fun i t z a b=>(e i t z a b).kept d,?_⟩;rcases c with c|⟨g,l,e,a,b,f,j⟩
 ·exact Or.inl c
 ·have c:=k g (by rw[a];rfl);refine Or.inr ⟨g,l,e,a,b,zv f d.1,fun i t e=>?_⟩;obtain⟨a,b,d⟩:=j i t e;exact⟨(zP (w:=w) c).trans a,(zP (w:=w) c).trans b,(zP (w:=w) c).trans d⟩
theorem Qj.lt {w:H}{v:Value}{zs:List (Int×Nat)}(h:Qj w v zs):∀g,v.ownBlock=E g->g<w.heap.size:=by
 intro g a;obtain⟨_,_,_,b⟩:=h;rcases b with b|⟨_,_,_,c,_,_,_⟩
 ·rw[b.1]at a;cases a
 ·rw[c]at a;simp[Value.ownBlock]at a;omega
def zah (B:Nat)(w:H)(v:Value)(zs:List (Int×Nat)):Prop:=
 ∃ts:List Tri,ts.length=zs.length/\w.ownsRow B 118 3 v ts.length (Zj ts)/\∀(i:Nat) (t:Tri) (z:Int×Nat),ts[i]? =E t->zs[i]? =E z->qe w t.val z.1 z.2
theorem zaJ {w w':H}{B e size n:Nat}{v:Value}{a:List Value}(h:w.ownsRow B e size v n a)(hs:w.heap.size<=w'.heap.size)(p:∀g,v.ownBlock=E g->w'.heap[g]? =w.heap[g]?):w'.ownsRow B e size v n a:=by
 obtain⟨a,f|⟨g,c,d,b,l,m,o,i,j,k⟩⟩:=h;·exact⟨a,Or.inl f⟩
 ·exact⟨a,Or.inr ⟨g,c,d,b,l,(p g (by rw[b];rfl)).trans m,o,i,j,k⟩⟩
theorem za5 {w:H}{B e size n:Nat}{v:Value}{a:List Value}(h:w.ownsRow B e size v n a):∀g,v.ownBlock=E g->B<=g/\g<w.heap.size:=by
 intro g a;obtain⟨_,b|⟨_,_,_,f,c,d,_,_,_,_⟩⟩:=h;·rw[b.1]at a;cases a
 ·rw[f]at a;simp[Value.ownBlock]at a;subst a;exact⟨c,(zf.1 d).1⟩
theorem zah.kept {B:Nat}{w w':H}{v:Value}{zs:List (Int×Nat)}(h:zah B w v zs)(a:QH w w')(e:∀g,v.ownBlock=E g->w'.heap[g]? =w.heap[g]?):zah B w' v zs:=by
 obtain⟨f,b,c,d⟩:=h;exact⟨f,b,zaJ c a.1 e,fun i t z b c=>(d i t z b c).kept a⟩
theorem zah.lt {B:Nat}{w:H}{v:Value}{zs:List (Int×Nat)}(h:zah B w v zs):∀g,v.ownBlock=E g->B<=g/\g<w.heap.size:=by
 obtain⟨_,_,a,_⟩:=h;exact za5 a
theorem zah.nums {B:Nat}{w:H}{v:Value}{zs:List (Int×Nat)}(h:zah B w v zs):Qj w v zs:=by
 obtain⟨f,d,b,e⟩:=h;obtain⟨a,c,rfl⟩:∃a c,v=V a f.length c:=by
  obtain⟨_,a|⟨_,_,_,c,_⟩⟩:=b;·exact⟨O,0,by rw[a.1,a.2]⟩
  ·exact⟨_,_,c⟩
 exact zbO b d e
structure jU where
 g:Option Addr×Nat×Nat
 s:ByteArray
 r:Tri
def jU.gv (c:jU):Value:=V c.g.1 c.g.2.1 c.g.2.2
def jU.cells (c:jU):List Value:= [c.gv,gS c.s,G c.r.b,c.r.up,c.r.down]
def JR (cs:List jU):List Value:=cs.flatMap jU.cells
def zbQ (B:Nat)(w:H)(v:Value)(c:jU)(r:List Int×List UInt8×Int):Prop:=
 Qj w c.gv (r.1.map fun z=>(z,1))/\(∀g,c.gv.ownBlock=E g->B<=g/\v.ownBlock≠E g)/\c.s=⟨r.2.1.toArray⟩/\qe w c.r.val r.2.2 1
def zbR (B:Nat)(w:H)(v:Value)(rows:List (List Int×List UInt8×Int)):Prop:=
 ∃cs:List jU,cs.length=rows.length/\w.ownsRow B 206 5 v cs.length (JR cs)/\∀(i:Nat) (c:jU) (r:List Int×List UInt8×Int),cs[i]? =E c->rows[i]? =E r->zbQ B w v c r
theorem zbQ.kept {B:Nat}{w w':H}{v:Value}{c:jU}{r:List Int×List UInt8×Int}(h:zbQ B w v c r)(e:QH w w')(j:∀g,B<=g->g<w.heap.size->v.ownBlock≠E g->w'.heap[g]? =w.heap[g]?):zbQ B w' v c r:=by
 obtain⟨d,a,f,i⟩:=h;exact⟨d.kept e (fun g b=>j g (a g b).1 (d.lt g b) (a g b).2),a,f,i.kept e⟩
theorem zbR.kept {B:Nat}{w w':H}{v:Value}{rows:List (List Int×List UInt8×Int)}(h:zbR B w v rows)(b:QH w w')(i:∀g,v.ownBlock=E g->w'.heap[g]? =w.heap[g]?)(e:rows≠ []->∀g,B<=g->g<w.heap.size->v.ownBlock≠E g->w'.heap[g]? =w.heap[g]?):zbR B w' v rows:=by
 obtain⟨a,c,d,f⟩:=h;refine⟨a,c,zaJ d b.1 i,fun j c r d a=>?_⟩;have i:rows≠ []:=by rintro rfl;simp at a
 exact(f j c r d a).kept b (e i)
theorem zbR.lt {B:Nat}{w:H}{v:Value}{rows:List (List Int×List UInt8×Int)}(h:zbR B w v rows):∀g,v.ownBlock=E g->B<=g/\g<w.heap.size:=by
 obtain⟨_,_,a,_⟩:=h;exact za5 a
def za6 (w:H)(g:Nat)(x0 x1 x2 x3 x4:Value):Prop:=
 w.cell? ⟨g,0,O⟩=E x0/\w.cell? ⟨g,1,O⟩=E x1/\w.cell? ⟨g,2,O⟩=E x2/\w.cell? ⟨g,3,O⟩=E x3/\w.cell? ⟨g,4,O⟩=E x4/\
  w.frozen? ⟨g,0,O⟩=false/\w.frozen? ⟨g,1,O⟩=false/\w.frozen? ⟨g,2,O⟩=false/\w.frozen? ⟨g,3,O⟩=false/\w.frozen? ⟨g,4,O⟩=false
theorem za6.same {w w':H}{g:Nat}{c d e f i:Value}(h:za6 w g c d e f i)(b:w'.heap[g]? =w.heap[g]?):za6 w' g c d e f i:=by
 obtain⟨j,k,l,m,n,c,d,e,f,i⟩:=h;exact⟨(zP (w:=w) (a:=⟨g,0,O⟩) b).trans j,(zP (w:=w) (a:=⟨g,1,O⟩) b).trans k,(zP (w:=w) (a:=⟨g,2,O⟩) b).trans l,(zP (w:=w) (a:=⟨g,3,O⟩) b).trans m,(zP (w:=w) (a:=⟨g,4,O⟩) b).trans n,
  (zt (w:=w) (a:=⟨g,0,O⟩) b).trans c,(zt (w:=w) (a:=⟨g,1,O⟩) b).trans d,(zt (w:=w) (a:=⟨g,2,O⟩) b).trans e,(zt (w:=w) (a:=⟨g,3,O⟩) b).trans f,(zt (w:=w) (a:=⟨g,4,O⟩) b).trans i⟩
theorem set_other {w:H}{g i j:Nat}{v u:Value}(h:w.cell? ⟨g,j,O⟩=E u)(b:i≠j):(w.setCell ⟨g,i,O⟩ v).cell? ⟨g,j,O⟩=E u:=by
 rw[zp _ _ _ _ (by intro e;injection e with _ a;exact b a)];exact h
theorem za6.set0 {w:H}{g:Nat}{e a b c d:Value}(h:za6 w g e a b c d)(v:Value):za6 (w.setCell ⟨g,0,O⟩ v) g v a b c d:=by
 obtain⟨f,i,j,k,l,a,b,c,d,e⟩:=h;exact⟨zu _ _ _ f,set_other i om,set_other j om,set_other k om,set_other l om,by simpa using a,by simpa using b,by simpa using c,by simpa using d,by simpa using e⟩
theorem za6.set1 {w:H}{g:Nat}{a e b c d:Value}(h:za6 w g a e b c d)(v:Value):za6 (w.setCell ⟨g,1,O⟩ v) g a v b c d:=by
 obtain⟨f,i,j,k,l,a,b,c,d,e⟩:=h;exact⟨set_other f om,zu _ _ _ i,set_other j om,set_other k om,set_other l om,by simpa using a,by simpa using b,by simpa using c,by simpa using d,by simpa using e⟩
theorem za6.set2 {w:H}{g:Nat}{a b e c d:Value}(h:za6 w g a b e c d)(v:Value):za6 (w.setCell ⟨g,2,O⟩ v) g a b v c d:=by
 obtain⟨f,i,j,k,l,a,b,c,d,e⟩:=h;exact⟨set_other f om,set_other i om,zu _ _ _ j,set_other k om,set_other l om,by simpa using a,by simpa using b,by simpa using c,by simpa using d,by simpa using e⟩
theorem za6.set3 {w:H}{g:Nat}{a b c e d:Value}(h:za6 w g a b c e d)(v:Value):za6 (w.setCell ⟨g,3,O⟩ v) g a b c v d:=by
 obtain⟨f,i,j,k,l,a,b,c,d,e⟩:=h;exact⟨set_other f om,set_other i om,set_other j om,zu _ _ _ k,set_other l om,by simpa using a,by simpa using b,by simpa using c,by simpa using d,by simpa using e⟩
theorem za6.set4 {w:H}{g:Nat}{a b c d e:Value}(h:za6 w g a b c d e)(v:Value):za6 (w.setCell ⟨g,4,O⟩ v) g a b c d v:=by
 obtain⟨f,i,j,k,l,a,b,c,d,e⟩:=h;exact⟨set_other f om,set_other i om,set_other j om,set_other k om,zu _ _ _ l,by simpa using a,by simpa using b,by simpa using c,by simpa using d,by simpa using e⟩
structure RQ (W1 w:H)(gp n:Nat)(mx lo hi:List Int)(rows:List (List Int×List UInt8×Int))(vM vL vH vC:Value):Prop where
 lt:gp<W1.heap.size
 kind:¬QE w gp
 wr:Wr (fun k=>k=gp) W1 w
 box:za6 w gp (it .i64 (n:Nat)) vM vL vH vC
 mx:Qj w vM (mx.map fun z=>(z,1))
 mxB:∀g,vM.ownBlock=E g->W1.heap.size<=g
 lo:zah W1.heap.size w vL (lo.map fun z=>(z,1))
 hi:zah W1.heap.size w vH (hi.map fun z=>(z,1))
 cs:zbR W1.heap.size w vC rows
 sepL:∀g,vL.ownBlock=E g->vM.ownBlock≠E g/\vH.ownBlock≠E g
 sepH:∀g,vH.ownBlock=E g->vM.ownBlock≠E g
 sepC:∀g,vC.ownBlock=E g->vM.ownBlock≠E g
theorem RQ.gpw {b w:H}{a n:Nat}{e d c:List Int}{rows:List (List Int×List UInt8×Int)}{j i g f:Value}(h:RQ b w a n e d c rows j i g f):a<w.heap.size:=zv h.lt h.wr.size
theorem RQ.below {b w w':H}{c n:Nat}{f e d:List Int}{rows:List (List Int×List UInt8×Int)}{k j i g:Value}(h:RQ b w c n f e d rows k j i g)(a:Below w.heap.size w w'):RQ b w' c n f e d rows k j i g:=by
 have d:=QH.of_below a;have e:=h.gpw;refine⟨h.lt,?_,h.wr.trans (Wr.of_below (T:=fun k=>k=c) a),h.box.same (a.block c e),h.mx.kept d (fun g b=>a.block g (h.mx.lt g b)),h.mxB,h.lo.kept d (fun g b=>a.block g (h.lo.lt g b).2),h.hi.kept d (fun g b=>a.block g (h.hi.lt g b).2),h.cs.kept d (fun g b=>a.block g (h.cs.lt g b).2) (fun _ g _ b _=>a.block g b),h.sepL,h.sepH,h.sepC⟩;rintro⟨b,d,f⟩;exact h.kind ⟨b,d,(a.block c e).symm.trans f⟩
theorem RQ.alloc {a w:H}{b n:Nat}{e d c:List Int}{rows:List (List Int×List UInt8×Int)}{j i g f:Value}(h:RQ a w b n e d c rows j i g f)(o:Obj):RQ a (w.alloc o) b n e d c rows j i g f:=h.below ((zR _ _).alloc (zh _) o)
theorem RQ.drew {a w:H}{b n:Nat}{e d c:List Int}{rows:List (List Int×List UInt8×Int)}{j i g f:Value}(h:RQ a w b n e d c rows j i g f):RQ a w.drew b n e d c rows j i g f:=
 h.below ⟨rfl,rfl,rfl,zh _,fun _ _=>rfl⟩
theorem QY {w:H}{k:Nat}{a:Addr}{v:Value}(h:¬QE w k):¬QE (w.setCell a v) k:=by
 rintro⟨e,i,b⟩;by_cases c:a.block=k
 ·subst c;have d:a.block<w.heap.size:=by simpa using (zf.1 b).1
  rw[World.setCell]at b;simp only[zcy,jo,ZM d,Zz]at b;cases ho:w.heap[a.block]with
  |cells f g g=>
   rw[ho]at b;simp only[z7,zcS]at b;exact h ⟨f,g,by rw[ZM d,ho,b.2.1]⟩
  |_=>rw[ho]at b;simp at b
 ·exact h ⟨e,i,(zK _ _ _ _ (fun e=>c e.symm)).symm.trans b⟩
theorem RQ.stored {b w:H}{c n m j:Nat}{l k i:List Int}{rows:List (List Int×List UInt8×Int)}{g f e d v:Value}(h:RQ b w c n l k i rows g f e d)(o:za6 (w.setCell ⟨c,j,O⟩ v) c (it .i64 (m:Nat)) g f e d):RQ b (w.setCell ⟨c,j,O⟩ v) c m l k i rows g f e d:=by
 have e:=QH.of_setCell (a:=⟨c,j,O⟩) h.kind v;have d:∀g,b.heap.size<=g->(w.setCell ⟨c,j,O⟩ v).heap[g]? =w.heap[g]?:=fun g b=>zK _ _ _ _ (by have:=h.lt;simp;omega)
 exact⟨h.lt,QY h.kind,h.wr.setCell (p:=⟨c,j,O⟩) rfl v,o,h.mx.kept e (fun g b=>d g (h.mxB g b)),h.mxB,h.lo.kept e (fun g b=>d g (h.lo.lt g b).1),h.hi.kept e (fun g b=>d g (h.hi.lt g b).1),h.cs.kept e (fun g b=>d g (h.cs.lt g b).1) (fun _ g b _ _=>d g b),h.sepL,h.sepH,h.sepC⟩
theorem RQ.setN {b w:H}{a n:Nat}{e d c:List Int}{rows:List (List Int×List UInt8×Int)}{k j i g:Value}(h:RQ b w a n e d c rows k j i g)(f:Nat):RQ b (w.setCell ⟨a,0,O⟩ (it .i64 (f:Nat))) a f e d c rows k j i g:=
 h.stored (h.box.set0 _)
theorem RQ.setMax {b w:H}{c n:Nat}{l k j m:List Int}{rows:List (List Int×List UInt8×Int)}{o i f e v:Value}(h:RQ b w c n l k j rows o i f e)(q:Qj w v (m.map fun z=>(z,1)))(d:∀g,v.ownBlock=E g->b.heap.size<=g/\i.ownBlock≠E g/\f.ownBlock≠E g/\e.ownBlock≠E g):RQ b (w.setCell ⟨c,1,O⟩ v) c n m k j rows v i f e:=by
 have m:=h;have f:=QH.of_setCell (a:=⟨c,1,O⟩) h.kind v;have e:∀g,b.heap.size<=g->(w.setCell ⟨c,1,O⟩ v).heap[g]? =w.heap[g]?:=fun g b=>zK _ _ _ _ (by have:=h.lt;simp;omega)
 exact⟨h.lt,QY h.kind,h.wr.setCell (p:=⟨c,1,O⟩) rfl v,h.box.set1 v,q.kept f (fun g b=>e g (d g b).1),fun g b=>(d g b).1,h.lo.kept f (fun g b=>e g (h.lo.lt g b).1),h.hi.kept f (fun g b=>e g (h.hi.lt g b).1),h.cs.kept f (fun g b=>e g (h.cs.lt g b).1) (fun _ g b _ _=>e g b),
  fun g b=>⟨fun e=>(d g e).2.1 b,(h.sepL g b).2⟩,fun g b e=>(d g e).2.2.1 b,fun g b e=>(d g e).2.2.2 b⟩
theorem zgF {b w w':H}{c:Nat}{row:Option Nat}(h:Wr (fun k=>k=c) b w)(a:w.grownBy w' row)(d:∀g,row=E g->b.heap.size<=g):Wr (fun k=>k=c) b w':=
 ⟨a.os.trans h.os,a.tape.trans h.tape,a.output.trans h.output,zL h.size a.size,fun k b c=>(a.block k (zv b h.size) (fun e=>by have:=d k e.symm;omega)).trans (h.block k b c)⟩
theorem zjc {ts:List Tri}{x:Tri}{zs:List (Int×Nat)}{z:Int×Nat}{w:H}(d:ts.length=zs.length)(e:∀(i:Nat) (t:Tri) (z:Int×Nat),ts[i]? =E t->zs[i]? =E z->qe w t.val z.1 z.2)(f:qe w x.val z.1 z.2):
 ∀(i:Nat) (t:Tri) (y:Int×Nat),(ts ++ [x])[i]? =E t->(zs ++ [z])[i]? =E y->qe w t.val y.1 y.2:=by
 intro i t y a b;by_cases c:i<ts.length
 ·rw[zM c]at a;rw[zM om]at b;exact e i t y a b
 ·have c:i=ts.length:=by
   have:=(zn.1 a).1;simp at this;omega
  subst c;rw[zJ (zh _),Zy]at a;rw[d,zJ (zh _),Zy]at b;simp at a b;subst a b;exact f
theorem RQ.noKindL {b w:H}{c n:Nat}{f e d:List Int}{rows:List (List Int×List UInt8×Int)}{k a j i:Value}(h:RQ b w c n f e d rows k a j i):∀g,a.ownBlock=E g->¬QE w g:=by
 obtain⟨_,_,a,_⟩:=h.lo;exact JG a dc
theorem RQ.noKindH {b w:H}{c n:Nat}{f e d:List Int}{rows:List (List Int×List UInt8×Int)}{k j a i:Value}(h:RQ b w c n f e d rows k j a i):∀g,a.ownBlock=E g->¬QE w g:=by
 obtain⟨_,_,a,_⟩:=h.hi;exact JG a dc
theorem RQ.noKindC {b w:H}{c n:Nat}{f e d:List Int}{rows:List (List Int×List UInt8×Int)}{k j i a:Value}(h:RQ b w c n f e d rows k j i a):∀g,a.ownBlock=E g->¬QE w g:=by
 obtain⟨_,_,a,_⟩:=h.cs;exact JG a dc
theorem RQ.growLo {d w w':H}{b n g cap:Nat}{j c e:List Int}{o l m k:Value}{ts:List Tri}{x:Tri}{z:Int}(h:RQ d w b n j c e [] o l m k)(y:ts.length=(c.map fun z=>(z,(1:Nat))).length)
 (B:∀(i:Nat) (t:Tri) (z:Int×Nat),ts[i]? =E t->(c.map fun z=>(z,1))[i]? =E z->qe w t.val z.1 z.2) (C:qe w x.val z 1)
 (v:w'.ownsRow d.heap.size 118 3 (V (E ⟨g,0,O⟩) (ts.length+1) cap) (ts.length+1) (Zj ts++x.cells)) (f:w.grownBy w' l.ownBlock) (A:l.ownBlock=E g\/g=w.heap.size):
 RQ d (w'.setCell ⟨b,2,O⟩ (V (E ⟨g,0,O⟩) (ts.length+1) cap)) b n j (c ++ [z]) e [] o (V (E ⟨g,0,O⟩) (ts.length+1) cap) m k:=by
 have c:=QH.of_grown f h.noKindL;have s:=f.block b h.gpw (fun e=>by have:=(h.lo.lt b e.symm).1;have:=h.lt;omega);have u:¬QE w' b:=by
  rintro⟨q,j,r⟩;exact h.kind ⟨q,j,s.symm.trans r⟩
 have m:QH w' (w'.setCell ⟨b,2,O⟩ (V (E ⟨g,0,O⟩) (ts.length+1) cap)):=QH.of_setCell (a:=⟨b,2,O⟩) u _;have j:∀k,d.heap.size<=k->(w'.setCell ⟨b,2,O⟩ (V (E ⟨g,0,O⟩) (ts.length+1) cap)).heap[k]? =w'.heap[k]?:=fun k c=>zK _ _ _ _ (by have:=h.lt;simp;omega)
 have o:∀k,k<w.heap.size->l.ownBlock≠E k->w'.heap[k]? =w.heap[k]?:=fun k c e=>f.block k c (fun l=>e l.symm)
 have l:=(za5 v g rfl).1;refine⟨h.lt,QY u,(zgF h.wr f (fun g d=>(h.lo.lt g d).1)).setCell (p:=⟨b,2,O⟩) rfl _,(h.box.same s).set2 _,?_,h.mxB,?_,?_,?_,?_,h.sepH,h.sepC⟩
 ·have d:=h.mx.kept c (fun k b=>o k (h.mx.lt k b) (fun e=>(h.sepL k e).1 b));exact d.kept m (fun k b=>j k (h.mxB k b))
 ·refine zah.kept ⟨ts ++ [x],?_,?_,?_⟩ m (fun k b=>j k ?_);·simp at y⊢;omega
  ·rw[zX,qF];have e:Zj ts++x.cells=Zj (ts ++ [x]):=by simp[Zj]
   rw[<-e];exact v
  ·rw[ZN,ZF,jE];exact zjc y (fun i t y d f=>(B i t y d f).kept c) (C.kept c)
  ·simp[Value.ownBlock]at b;omega
 ·have l:=h.hi.kept c (fun k b=>o k (h.hi.lt k b).2 (fun e=>(h.sepL k e).2 b));exact l.kept m (fun k b=>j k (h.hi.lt k b).1)
 ·obtain⟨c,l,B,r⟩:=h.cs;have m:=ZP (by simpa using l);subst m;refine⟨[],rfl,?_,fun i q r d f=>by simp at d⟩;obtain⟨l,d|⟨c,q,r,C,m,f,y,s,u,v⟩⟩:=B;·exact⟨l,Or.inl d⟩
  ·have d:=(zf.1 f).1;refine⟨l,Or.inr ⟨c,q,r,C,m,((j c m).trans (o c d ?_)).trans f,y,s,u,v⟩⟩;intro e;obtain⟨_,_,d,_⟩:=h.lo;obtain⟨_,j|⟨_,_,_,l,_,c,_⟩⟩:=d;·rw[j.1]at e;cases e
   ·rw[l]at e;simp[Value.ownBlock]at e;subst e;rw[f]at c;simp at c
 ·intro k b;simp[Value.ownBlock]at b;subst b;rcases A with e|e
  ·exact h.sepL g e
  ·subst e;exact⟨fun e=>by have:=h.mx.lt _ e;omega,fun e=>by have:=(h.hi.lt _ e).2;omega⟩
theorem RQ.growHi {d w w':H}{b n g cap:Nat}{j e c:List Int}{o m l k:Value}{ts:List Tri}{x:Tri}{z:Int}(h:RQ d w b n j e c [] o m l k)(A:ts.length=(c.map fun z=>(z,(1:Nat))).length)
 (B:∀(i:Nat) (t:Tri) (z:Int×Nat),ts[i]? =E t->(c.map fun z=>(z,1))[i]? =E z->qe w t.val z.1 z.2) (C:qe w x.val z 1)
 (y:w'.ownsRow d.heap.size 118 3 (V (E ⟨g,0,O⟩) (ts.length+1) cap) (ts.length+1) (Zj ts++x.cells)) (f:w.grownBy w' l.ownBlock) (r:l.ownBlock=E g\/g=w.heap.size):
 RQ d (w'.setCell ⟨b,3,O⟩ (V (E ⟨g,0,O⟩) (ts.length+1) cap)) b n j e (c ++ [z]) [] o m (V (E ⟨g,0,O⟩) (ts.length+1) cap) k:=by
 have c:=QH.of_grown f h.noKindH;have u:=f.block b h.gpw (fun e=>by have:=(h.hi.lt b e.symm).1;have:=h.lt;omega);have v:¬QE w' b:=by
  rintro⟨q,j,s⟩;exact h.kind ⟨q,j,u.symm.trans s⟩
 have m:QH w' (w'.setCell ⟨b,3,O⟩ (V (E ⟨g,0,O⟩) (ts.length+1) cap)):=QH.of_setCell (a:=⟨b,3,O⟩) v _;have j:∀k,d.heap.size<=k->(w'.setCell ⟨b,3,O⟩ (V (E ⟨g,0,O⟩) (ts.length+1) cap)).heap[k]? =w'.heap[k]?:=fun k c=>zK _ _ _ _ (by have:=h.lt;simp;omega)
 have o:∀k,k<w.heap.size->l.ownBlock≠E k->w'.heap[k]? =w.heap[k]?:=fun k c e=>f.block k c (fun l=>e l.symm)
 have l:=(za5 y g rfl).1;refine⟨h.lt,QY v,(zgF h.wr f (fun g d=>(h.hi.lt g d).1)).setCell (p:=⟨b,3,O⟩) rfl _,(h.box.same u).set3 _,?_,h.mxB,?_,?_,?_,?_,?_,h.sepC⟩
 ·have d:=h.mx.kept c (fun k b=>o k (h.mx.lt k b) (fun e=>h.sepH k e b));exact d.kept m (fun k b=>j k (h.mxB k b))
 ·have d:=h.lo.kept c (fun k b=>o k (h.lo.lt k b).2 (fun e=>(h.sepL k b).2 e));exact d.kept m (fun k b=>j k (h.lo.lt k b).1)
 ·refine zah.kept ⟨ts ++ [x],?_,?_,?_⟩ m (fun k b=>j k ?_);·simp at A⊢;omega
  ·rw[zX,qF];have e:Zj ts++x.cells=Zj (ts ++ [x]):=by simp[Zj]
   rw[<-e];exact y
  ·rw[ZN,ZF,jE];exact zjc A (fun i t y d f=>(B i t y d f).kept c) (C.kept c)
  ·simp[Value.ownBlock]at b;omega
 ·obtain⟨c,l,B,s⟩:=h.cs;have m:=ZP (by simpa using l);subst m;refine⟨[],rfl,?_,fun i q c d f=>by simp at d⟩;obtain⟨l,d|⟨c,q,s,C,m,f,A,u,v,y⟩⟩:=B;·exact⟨l,Or.inl d⟩
  ·have d:=(zf.1 f).1;refine⟨l,Or.inr ⟨c,q,s,C,m,((j c m).trans (o c d ?_)).trans f,A,u,v,y⟩⟩;intro e;obtain⟨_,_,d,_⟩:=h.hi;obtain⟨_,j|⟨_,_,_,l,_,c,_⟩⟩:=d;·rw[j.1]at e;cases e
   ·rw[l]at e;simp[Value.ownBlock]at e;subst e;rw[f]at c;simp at c
 ·intro k b;refine⟨(h.sepL k b).1,fun e=>?_⟩;simp[Value.ownBlock]at e;subst e;rcases r with e|e
  ·exact(h.sepL _ b).2 e
  ·have:=(h.lo.lt _ b).2;omega
 ·intro k b;simp[Value.ownBlock]at b;subst b;rcases r with e|e
  ·exact h.sepH g e
  ·subst e;exact fun e=>by have:=h.mx.lt _ e;omega
theorem RQ.growCs {b w w':H}{d n g cap:Nat}{j e u:List Int}{rows:List (List Int×List UInt8×Int)}{r:List Int×List UInt8×Int}{m l k f:Value}{cs:List jU}{x:jU}(h:RQ b w d n j e u rows m l k f)(P:cs.length=rows.length)
 (Q:∀(i:Nat) (c:jU) (r:List Int×List UInt8×Int),cs[i]? =E c->rows[i]? =E r->zbQ b.heap.size w f c r) (R:zbQ b.heap.size w f x r)
 (J:w'.ownsRow b.heap.size 206 5 (V (E ⟨g,0,O⟩) (cs.length+1) cap) (cs.length+1) (JR cs++x.cells)) (t:w.grownBy w' f.ownBlock) (D:f.ownBlock=E g\/g=w.heap.size):
 RQ b (w'.setCell ⟨d,4,O⟩ (V (E ⟨g,0,O⟩) (cs.length+1) cap)) d n j e u (rows ++ [r]) m l k (V (E ⟨g,0,O⟩) (cs.length+1) cap):=by
 have j:=QH.of_grown t h.noKindC;have F:=t.block d h.gpw (fun e=>by have:=(h.cs.lt d e.symm).1;have:=h.lt;omega);have I:¬QE w' d:=by
  rintro⟨c,k,z⟩;exact h.kind ⟨c,k,F.symm.trans z⟩
 have o:QH w' (w'.setCell ⟨d,4,O⟩ (V (E ⟨g,0,O⟩) (cs.length+1) cap)):=QH.of_setCell (a:=⟨d,4,O⟩) I _;have q:∀k,b.heap.size<=k->(w'.setCell ⟨d,4,O⟩ (V (E ⟨g,0,O⟩) (cs.length+1) cap)).heap[k]? =w'.heap[k]?:=fun k j=>zK _ _ _ _ (by have:=h.lt;simp;omega)
 have v:∀k,k<w.heap.size->f.ownBlock≠E k->w'.heap[k]? =w.heap[k]?:=fun k j e=>t.block k j (fun y=>e y.symm)
 have l:=(za5 J g rfl).1;have T:∀k,f.ownBlock=E k->∃c,w.heap[k]? =E (cl c 206 (0,0)):=by
  intro k e;obtain⟨_,_,l,_⟩:=h.cs;obtain⟨_,B|⟨N,L,M,C,S,m,_⟩⟩:=l;·rw[B.1]at e;cases e
  ·rw[C]at e;simp[Value.ownBlock]at e;subst e;exact⟨_,m⟩
 have K:∀{s e size n:Nat} {l:Value} {A:List Value},w.ownsRow s e size l n A->e≠206->∀k,l.ownBlock=E k->f.ownBlock≠E k:=by
  intro s e size n l A l A k s y;obtain⟨c,z⟩:=T k y;obtain⟨_,B|⟨N,L,M,C,S,m,_⟩⟩:=l;·rw[B.1]at s;cases s
  ·rw[C]at s;simp[Value.ownBlock]at s;subst s;rw[z]at m;simp at m;first|exact A m.symm|exact A m.2.1.symm|exact A m.2.symm
 have one:∀{c:jU} {r:List Int×List UInt8×Int},zbQ b.heap.size w f c r->zbQ b.heap.size (w'.setCell ⟨d,4,O⟩ (V (E ⟨g,0,O⟩) (cs.length+1) cap)) (V (E ⟨g,0,O⟩) (cs.length+1) cap) c r:=by
  rintro c r ⟨m,f,s,y⟩;refine⟨(m.kept j (fun k b=>v k (m.lt k b) (f k b).2)).kept o (fun k b=>q k (f k b).1),fun k b=>⟨(f k b).1,fun e=>?_⟩,s,(y.kept j).kept o⟩;simp[Value.ownBlock]at e;subst e;rcases D with e|e
  ·exact(f _ b).2 e
  ·have:=m.lt _ b;omega
 refine⟨h.lt,QY I,(zgF h.wr t (fun g f=>(h.cs.lt g f).1)).setCell (p:=⟨d,4,O⟩) rfl _,(h.box.same F).set4 _,?_,h.mxB,?_,?_,?_,h.sepL,h.sepH,?_⟩
 ·have d:=h.mx.kept j (fun k b=>v k (h.mx.lt k b) (fun e=>h.sepC k e b));exact d.kept o (fun k b=>q k (h.mxB k b))
 ·obtain⟨s,f,l,m⟩:=h.lo;have d:=zah.kept ⟨s,f,l,m⟩ j (fun k b=>v k (h.lo.lt k b).2 (K l dc k b));exact d.kept o (fun k b=>q k (h.lo.lt k b).1)
 ·obtain⟨s,f,l,m⟩:=h.hi;have d:=zah.kept ⟨s,f,l,m⟩ j (fun k b=>v k (h.hi.lt k b).2 (K l dc k b));exact d.kept o (fun k b=>q k (h.hi.lt k b).1)
 ·refine⟨cs ++ [x],so,?_,fun i c j d f=>?_⟩
  ·rw[zX,qF];have e:JR cs++x.cells=JR (cs ++ [x]):=by simp[JR]
   rw[<-e];exact zaJ J sp (fun k b=>q k (by simp[Value.ownBlock]at b;omega))
  ·by_cases u:i<cs.length
   ·rw[zM u]at d;rw[zM om]at f;exact one (Q i c j d f)
   ·have j:i=cs.length:=by
     have:=(zn.1 d).1;simp at this;omega
    subst j;rw[zJ (zh _),Zy]at d;rw[P,zJ (zh _),Zy]at f;simp at d f;subst d f;exact one R
 ·intro k b;simp[Value.ownBlock]at b;subst b;rcases D with e|e
  ·exact h.sepC g e
  ·subst e;exact fun e=>by have:=h.mx.lt _ e;omega
end Go.Proofs.YtnhfdcfnojnofaaGreatDoor.T
