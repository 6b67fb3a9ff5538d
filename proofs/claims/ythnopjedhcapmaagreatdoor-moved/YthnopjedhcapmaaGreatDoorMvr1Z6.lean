import Derived.Test.YthnopjedhcapmaaGreatDoorMvr1Z4
open Option renaming none->O,some->E
open Go.Value renaming slice->V,bool->G,pointer->pn,int->it,agg->ag
open Go.Obj renaming cells->cl
open Go renaming World->H
open Go.Proofs.Tryz renaming prog->pg
open Go.Proofs.Tryz
open Go.Ending renaming returned->Xa
open Go.IntKind renaming i64->Xb
open Go.Addr renaming mk->Xd
set_option linter.unusedSimpArgs false
set_option linter.unusedVariables false
set_option maxHeartbeats 2000000
set_option maxRecDepth 100000
namespace Go.Proofs.YthnopjedhcapmaaGreatDoor
namespace T
open Go.RowKit
theorem zlM {n K:Nat}(h:n<10000^K):(Lib.decDigits n).length<=4*K+1:=
 zbS (4*K+1) _ (by rw[pow4]at h;exact zK h (ZD om om)) om
theorem zqA {p:Int}{q K:Nat}(a:p.natAbs<10000^K)(b:q<10000^K):(jL p q).length<=8*K+4:=by
 have c:=zlM a;have a:=zlM b;have a:(Lib.itoa p).length<=4*K+2:=by
  unfold Lib.itoa;split
  ·simp;omega
  ·rw[show p.toNat=p.natAbs by omega];omega
 unfold jL;split
 ·omega
 ·simp;omega
def varB (c:UInt8):Nat:=if 49<=c.toNat/\c.toNat<=52 then c.toNat-48 else 0
def varsN (ls:List (U_)):Nat:=if ls.length=2/\ls.getD 0 []= [118,97,114,115]/\(ls.getD 1 []).length=1 then varB ((ls.getD 1 []).getD 0 0)else 0
theorem varB_le (c:UInt8):varB c<=4:=by
 unfold varB;split<;>omega
end T

section
structure qF where
 n:Nat
 mx:L_
 rg:List (Int×Int)
 rows:List (L_×U_×Int)
def qF.none:qF:=⟨0,[],[],[]⟩
def zbB:U_:= [109,97,120]
def Je:U_:= [114,97,110,103,101]
def JX:U_:= [114,111,119]
def zan:U_:= [118,97,114,115]
def dOk (l:U_):Bool:=T.okD (Lib.trimPrefix l [45]) 40
def jD (i:Nat)(p:qF)(ws:List (U_)):Option qF:=
 if i=0 then(if T.varsN ws=0 then .none else E ⟨T.varsN ws,[],[],[]⟩)
 else if i=1 then(if ws.length=p.n+1/\ws.getD 0 []=zbB/\(ws.drop 1).all dOk=true then E { p with mx:=(ws.drop 1).map T.wZ } else .none)
 else if i<=1+p.n then(if ws.length=3/\ws.getD 0 []=Je/\(ws.drop 1).all dOk=true then E { p with rg:=p.rg ++ [(T.wZ (ws.getD 1 []),T.wZ (ws.getD 2 []))] } else .none)
 else(if p.rows.length<6/\ws.length=p.n+3/\ws.getD 0 []=JX/\((ws.drop 1).take p.n).all dOk=true/\jO (ws.getD (p.n+1) [])=true/\dOk (ws.getD (p.n+2) [])=true
  then E { p with rows:=p.rows ++ [(((ws.drop 1).take p.n).map T.wZ,ws.getD (p.n+1) [],T.wZ (ws.getD (p.n+2) []))] } else .none)
def ju:Nat->qF->List (U_×Bool)->Except Nat qF
 |_,p,[]=> .ok p
 |i,p,l::r=>if l.2=false then .error (i+1)else match jD i p (Zb l.1)with
  |.none=> .error (i+1)
  |some q=>ju (i+1) q r
def zao:Nat->List (Int×Int)->Option Nat
 |_,[]=> .none
 |i,r::rs=>if 7<r.2-r.1 then E i else zao (i+1) rs
def QF (zs:L_):U_:=zs.flatMap fun z=>32::Lib.itoa z
def za1 (r:Int×Int):U_:=Je++QF [r.1,r.2] ++ [10]
def rowS (r:L_×U_×Int):U_:=JX++QF r.1++32::r.2.1++QF [r.2.2] ++ [10]
def ze4 (p:qF):U_:=
 zan++32::Lib.itoa (p.n:Int) ++ [10]++(zbB++QF p.mx ++ [10])++p.rg.flatMap za1++p.rows.flatMap rowS
end

namespace T
open Go.RowKit
variable {a:List (List Value)}{g size:Nat}{v:Value}{w:H}
theorem owns_same{w':H}{B e n:Nat}{xs:List Value}(h:w.ownsRow B e size v n xs)(hs:w.heap.size<=w'.heap.size)(p:∀g,v.ownBlock=E g->w'.heap[g]? =w.heap[g]?):w'.ownsRow B e size v n xs:=by
 obtain⟨a,f|⟨g,c,d,b,l,m,o,i,j,k⟩⟩:=h;·exact⟨a,Or.inl f⟩
 ·exact⟨a,Or.inr ⟨g,c,d,b,l,(p g (by rw[b];rfl)).trans m,o,i,j,k⟩⟩
def Box5 (w:H)(g:Nat)(x0 x1 x2 x3 x4:Value):Prop:=
 w.cell? (Xd g 0 O)=E x0/\w.cell? (Xd g 1 O)=E x1/\w.cell? (Xd g 2 O)=E x2/\w.cell? (Xd g 3 O)=E x3/\w.cell? (Xd g 4 O)=E x4/\
  w.frozen? (Xd g 0 O)=false/\w.frozen? (Xd g 1 O)=false/\w.frozen? (Xd g 2 O)=false/\w.frozen? (Xd g 3 O)=false/\w.frozen? (Xd g 4 O)=false
theorem set_other{i j:Nat}{u:Value}(h:w.cell? (Xd g j O)=E u)(b:i≠j):(w.setCell (Xd g i O) v).cell? (Xd g j O)=E u:=by
 rw[zA _ _ _ _ (by intro e;injection e with _ a;exact b a)];exact h
theorem Box5.set2{a b e c d:Value}(h:Box5 w g a b e c d)(v:Value):Box5 (w.setCell (Xd g 2 O) v) g a b v c d:=by
 obtain⟨f,i,j,k,l,a,b,c,d,e⟩:=h;exact⟨set_other f om,set_other i om,zN _ _ _ j,set_other k om,set_other l om,by simpa using a,by simpa using b,by simpa using c,by simpa using d,by simpa using e⟩
theorem Box5.set3{a b c e d:Value}(h:Box5 w g a b c e d)(v:Value):Box5 (w.setCell (Xd g 3 O) v) g a b c v d:=by
 obtain⟨f,i,j,k,l,a,b,c,d,e⟩:=h;exact⟨set_other f om,set_other i om,set_other j om,zN _ _ _ k,set_other l om,by simpa using a,by simpa using b,by simpa using c,by simpa using d,by simpa using e⟩
def Recs (w:H)(v:Value)(size:Nat)(css:List (List Value)):Prop:=
 (v=V_/\css= [])\/∃g off cap,v=V (E (Xd g off O)) css.length cap/\css.length<=cap/\g<w.heap.size/\∀(i:Nat) (cs:List Value),css[i]? =E cs->∀(j:Nat) (u:Value),cs[j]? =E u->w.cell? ⟨g,off+i*size+j,O⟩=E u
theorem Recs.shape(h:Recs w v size a):∃b cap,v=V b a.length cap:=by
 rcases h with ⟨rfl,rfl⟩|⟨_,off,cap,rfl,_⟩
 ·exact⟨O,0,rfl⟩
 ·exact⟨_,_,rfl⟩
theorem Recs.at{b:A_}{l cap:Nat}(h:Recs w (V b l cap) size a)(d:a≠ []):∃g off,b=E (Xd g off O)/\g<w.heap.size/\∀(i:Nat) (cs:List Value),a[i]? =E cs->∀(j:Nat) (u:Value),cs[j]? =E u->w.cell? ⟨g,off+i*size+j,O⟩=E u:=by
 rcases h with ⟨_,rfl⟩|⟨g,off,_,a,_,b,c⟩
 ·exact absurd rfl d
 ·simp only[qp]at a;exact⟨g,off,a.1,b,c⟩
theorem flat_get:∀(a:List (List Value)),(∀cs∈a,cs.length=size)->∀(i j:Nat) (cs:List Value) (u:Value),a[i]? =E cs->cs[j]? =E u->a.flatten[i*size+j]? =E u
 |[],_,i,j,cs,u,hi,_=>by simp at hi
 |c::a,h,i,j,cs,u,hi,b=>by
  have d:=h c qA;have e:=(zo.1 b).1;rw[zcY];cases i with
  |zero=>
   simp only[zcR,qN]at hi;subst hi;rw[Nat.zero_mul,qt,zS e];exact b
  |succ i=>
   simp only[jg]at hi;rw[zG (by rw[d,Zg];omega),d,show(i+1)*size+j-size=i*size+j by rw[Zg];omega];exact flat_get a (fun x a=>h x (qq _ a)) i j cs u hi b
theorem zkw:∀(a:List (List Value)),(∀cs∈a,cs.length=size)->a.flatten.length=a.length*size
 |[],_=>sp
 |c::a,h=>by
  rw[zcY,zM,h c qA,zkw a (fun x b=>h x (qq _ b)),qi,Zg];omega
theorem recs_of_owns{B t:Nat}{a:List (List Value)}(h:w.ownsRow B t size v a.length a.flatten)(hs:∀cs∈a,cs.length=size):Recs w v size a:=by
 obtain⟨_,b|⟨g,d,e,j,_,c,i,_,_,f⟩⟩:=h;·exact Or.inl ⟨b.1,QZ b.2⟩
 ·refine Or.inr ⟨g,0,d,j,i,(zd.1 c).1,fun i cs d j u g=>?_⟩;have b:=flat_get a hs i j cs u d g;have d:i*size+j<a.length*size:=by
   have:=(zo.1 b).1;rw[zkw a hs]at this;exact this
  have a:e.toList[i*size+j]? =E u:=by
   rw[<-f,zaG d]at b;exact b
  rw[qt];refine(ze _ _ (i*size+j) _ _ _ c).trans ?_;rw[<-jz];exact a
theorem flat_snoc(a:List (List Value))(cs:List Value):a.flatten++cs=(a ++ [cs]).flatten:=sp
end T

section
open Go.RowKit
attribute [local go_sem] zD zW qJ
structure WT where
 b:Bool
 s:S_
def WT.sv (t:WT):Value:=V t.s.1 t.s.2.1 t.s.2.2
def WT.val (t:WT):Value:=ag #[G t.b,t.sv]
def WT.cells (t:WT):List Value:= [G t.b,t.sv]
structure DP where
 r:S_
 f:T.Tri
def DP.rv (t:DP):Value:=V t.r.1 t.r.2.1 t.r.2.2
def DP.val (t:DP):Value:=ag #[t.rv,G t.f.b,t.f.up,t.f.down]
theorem zqB {l:Nat}(n:Nat){P:Program}{v:W_}{W:H}{f g:H->Prop}
 (h:YieldAt Fence.wide 0 P l v W fun e a=>(e=Xa (G true)/\f a)\/(e=Xa (G false)/\g a)):
 ∃d tmps b c,(Instr.yield l v).run P W= .ok (.round l d tmps b c) W/\
  RoundIn Fence.wide n P l d tmps b c W fun e a=>∃t,e=Xa (G t)/\Hid ((t=true->f a)/\(t=false->g a)):=by
 obtain⟨d,tmps,b,c,g,f⟩:=XA n h;refine⟨d,tmps,b,c,g,f.mono ?_⟩;rintro e a (⟨rfl,a⟩|⟨rfl,a⟩);·exact⟨true,rfl,fun _=>a,fun h=>by cases h⟩
 ·exact⟨false,rfl,(fun h=>by cases h),fun _=>a⟩
theorem JO (ts:List WT)(a:A_)(cap b:Nat)(c:ts.length<=1000000):
 Ja pg 179 #[p_ b 0] ts.length (fun k v _=>∃t,ts[k]? =E t/\v=#[t.val]) (fun W=>W.cell? (Xd b 0 O)=E (V a ts.length cap)/\T.Recs W (V a ts.length cap) 2 (ts.map WT.cells)):=by
 intro l J a a W j b c d b;have e:=(c 0 a W b).1.1;have e:=zf c;have f:=zf d;refine zcW func179 ntmps179 (h:=?_);gi_wp2;gi_loopw [7] (fun i wr=>∃(k:Nat) (M:Nat->Prop),i=i_ (k:Int)/\k<=ts.length/\J k M wr/\W.heap.size<=wr.heap.size) (fun i _=>ts.length-(intOf i).toNat)
 case atStart=>exact⟨0,a,rfl,qo _,b,zh _⟩
 case round=>
  obtain⟨k,M,rfl,_,b,_⟩:=hrel;by_cases a:k<ts.length
  ·have d:=zg a;obtain⟨_,off,rfl,_,c⟩:=(e.out k M wr b).1.2.at (by intro e;rw[QB]at e;rw[e]at a;simp at a);have e:=c k _ (by rw[zR,d];rfl);have c:=zf (fun g i=>f.out k #[(WT.val ts[k])] M g a ⟨_,d,rfl⟩ i);generalize ts[k]=t at *;obtain⟨_,_,_,_⟩:=t;have d:=e 0 _ rfl;have f:=e 1 _ rfl;rw[qV]at d;simp only[WT.cells,WT.sv]at d f;simp only[WT.val,WT.sv]at c;gi_wp2;refine jr (c.out _ (j _ _ _ _ b (zn.alloc _ _ _))) ?_ ?_
   ·rintro e ⟨f,d,c,_⟩;gi_wp2;go_roundw
    case rel=>exact⟨k+1,d,sp,a,c,by have:=f.size;simp at this;omega⟩
    case measure=>simp[intOf];omega
   ·intro e c;gi_wp2;refine zH (qI rfl _ _ _) rfl ?_;exact⟨⟨_,rfl⟩,.inr ⟨k,a,c.2⟩⟩
  ·gi_wp2;go_end0
   have a:k=ts.length:=om;subst a;exact⟨⟨_,rfl⟩,.inl ⟨M,b⟩⟩
theorem zdQ (a:A_)(l c:Nat)(w:H):
 C_ 106 #[V a l c] w fun e w'=>e=Xa (.func (.func 179) #[] #[p_ w.heap.size 0])/\w'=w.alloc (cl #[V a l c] 100):=by
 go_enter func106,ntmps106
 go_wp2;go_ret;exact⟨rfl,rfl⟩
theorem zcz (ts:List WT)(ss:List WT)(a0:ts.length=ss.length)(g j:A_)(cap p l m:Nat)(hn:ts.length<=1000000):
 Ja pg 230 #[p_ l 0,p_ m 0] ts.length (fun k v _=>∃t s,ts[k]? =E t/\ss[k]? =E s/\v=#[t.val,s.val]) (fun W=>W.cell? (Xd l 0 O)=E (V g ts.length cap)/\W.cell? (Xd m 0 O)=E (V j ts.length p)/\T.Recs W (V g ts.length cap) 2 (ts.map WT.cells)/\T.Recs W (V j ts.length p) 2 (ss.map WT.cells)):=by
 intro a3 J Jx f W P a2 u Q r;obtain⟨_,_,-,-⟩:=(u 0 f W r).1;have C:=zf u;have F:=zf Q;have D:=zf a0;have hm:Tryz.prog.follows .mixedOrders=true:=kr;refine zcW func230 ntmps230 (h:=?_);gi_wp2;gi_loopw [10] (fun i wr=>∃(k:Nat) (M:Nat->Prop),i=i_ (k:Int)/\k<=ts.length/\J k M wr/\W.heap.size<=wr.heap.size) (fun i _=>ts.length-(intOf i).toNat)
 case atStart=>exact⟨0,f,rfl,qo _,r,zh _⟩
 case round=>
  obtain⟨k,M,rfl,_,b,_⟩:=hrel;by_cases a:k<ts.length
  ·have B:=zg a;have c:k<ss.length:=by have:=D.out;omega
   have A:=zg c;obtain⟨_,_,r1,r2⟩:=(C.out k M wr b).1;obtain⟨_,off,rfl,_,R⟩:=r1.at (by intro e;rw[QB]at e;rw[e]at a;simp at a);obtain⟨_,_,rfl,_,S⟩:=r2.at (by intro e;rw[QB]at e;rw[e]at c;simp at c);have x:=R k _ (by rw[zR,B];rfl);have y:=S k _ (by rw[zR,A];rfl);have d:=zf (fun K Y=>F.out k #[(WT.val ts[k]),(WT.val ss[k])] M K a ⟨_,_,B,A,rfl⟩ Y);generalize ts[k]=t at *;generalize ss[k]=s at *;obtain⟨_,_,_,_⟩:=t;obtain⟨_,_,_,_⟩:=s;have o:=x 0 _ rfl;have L:=x 1 _ rfl;rw[qV]at o;simp only[WT.cells,WT.sv]at o L;have q:=y 0 _ rfl;have N:=y 1 _ rfl;rw[qV]at q;simp only[WT.cells,WT.sv]at q N;simp only[WT.val,WT.sv]at d;obtain⟨_,_,_,_,hy,w⟩:=zqB 0 (d.out wr.drew (P _ _ _ _ b (zn.drew _ wr)));gi_wp2;gi_region_with_o (refine w.mono ?_;rintro e W3 ⟨t,rfl,z⟩)
   all_goals clear w hy
   all_goals gi_wp2
   all_goals (rename_i Z;cases t<;>simp at Z)
   all_goals first
    |exact zH (qI rfl _ _ _) rfl ⟨⟨_,rfl⟩,.inr ⟨k,a,(z.out.2 rfl).2⟩⟩
    |(
     obtain⟨a1,I,X,_⟩:=z.out.1 rfl;go_roundw
     case rel=>exact⟨k+1,I,sp,a,X,by have:=a1.size;simp at this;omega⟩
     case measure=>simp[intOf];omega)
  ·gi_wp2;go_end0
   have U:k=ts.length:=om;subst U;exact⟨⟨_,rfl⟩,.inl ⟨M,b⟩⟩
theorem zex (a b:A_)(l c d c':Nat)(w:H):
 C_ 174 #[V a l c,V b d c'] w fun e w'=>e=Xa (.func (.func 230) #[] #[p_ w.heap.size 0,p_ (w.heap.size+1) 0])/\w'=(w.alloc (cl #[V a l c] 100)).alloc (cl #[V b d c'] 100):=by
 go_enter func174,ntmps174
 go_wp2;go_ret;exact⟨rfl,rfl⟩
