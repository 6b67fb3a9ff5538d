import Derived.Test.YtnhfdcfnojnofaaGreatDoorAds1Z3
open Option renaming none->O,some->E
open Go.Value renaming slice->V,pointer->pn,int->it
open Go.Obj renaming cells->cl
open Go renaming World->H
open Go.Proofs.Tryz renaming prog->pg
open Go.Proofs.Tryz
set_option linter.unusedSimpArgs false
set_option linter.unusedVariables false
set_option maxHeartbeats 1000000
set_option maxRecDepth 100000
namespace Go.Proofs.YtnhfdcfnojnofaaGreatDoor
open Go.RowKit
attribute [local go_sem] qm qW ZR
def ptrs (b sz n:Nat):List (Array Value):=(List.range n).map fun i=>#[pn (E ⟨b,i*sz,O⟩)]
theorem zbL {b a n k:Nat}(h:k<n):(ptrs b a n)[k]? =E #[pn (E ⟨b,k*a,O⟩)]:=by
 simp[ptrs,h]
theorem Q9 (b a n:Nat):(ptrs b a n).length=n:=by simp[ptrs]
theorem ZJ {f:Nat}{a:Func}{c:Code}(h:Tryz.prog.funcs[f]? =E a)(d:(a.name == "runtime.NumGoroutine")=false)(b:a.body=E c):∀args w,(callFunc f args).run pg w= .ok (.enter f args) w:=Go.Proofs.enters_of h d b
def zea (x:Nat->Nat->Value)(n:Nat):List (Array Value):=(List.range n).map fun i=>#[Value.agg #[x i 0,x i 1,x i 2,x i 3,x i 4,x i 5]]
theorem za1 {x:Nat->Nat->Value}{n k:Nat}(h:k<n):(zea x n)[k]? =E #[Value.agg #[x k 0,x k 1,x k 2,x k 3,x k 4,x k 5]]:=by
 simp[zea,h]
theorem jD (x:Nat->Nat->Value)(n:Nat):(zea x n).length=n:=by simp[zea]
theorem zdO (a:Option Addr)(b n cap c:Nat)(d:n<=1000000)(j:0<n->a=E ⟨b,0,O⟩):
 SeqL pg 325 #[pn (E ⟨c,0,O⟩)] (ptrs b 6 n) (fun W=>W.cell? ⟨c,0,O⟩=E (V a n cap)):=by
 intro l J a c W a a a e d;have f:=(a 0 c W d).1;have f:=zi a;have g:=zi e;clear e a;refine zcE func325 ntmps325 (h:=?_);gi_wp2;gi_loopw [6] (fun i wr=>∃(k:Nat) (M:Nat->Prop),i=it .i64 (k:Int)/\k<=n/\J k M wr) (fun i _=>n-(intOf i).toNat)
 case atStart=>exact⟨0,c,rfl,qp _,d⟩
 case round=>
  obtain⟨k,M,rfl,_,a⟩:=hrel;have c:=(f.out k M wr a).1;by_cases d:k<n
  ·obtain rfl:=j om;gi_wp2;refine jt (g.out k _ _ _ (zbL d) a) ?_ ?_
   ·rintro f ⟨_,e,c,_⟩;gi_wp2;go_roundw
    case rel=>exact⟨k+1,e,sp,d,c⟩
    case measure=>simp[intOf];omega
   ·intro f c;gi_wp2;refine zH (qY rfl _ _ _) rfl ?_;exact⟨⟨_,rfl⟩,.inr ⟨k,by rw[Q9];exact d,c.2⟩⟩
  ·gi_wp2;go_end0
   have c:k=n:=om;subst c;rw[Q9];exact⟨⟨_,rfl⟩,.inl ⟨M,a⟩⟩
theorem zeb (v:Value)(a:Option Addr)(l c:Nat)(b:v=V a l c)(w:H):
 Calls pg 245 #[v] w fun e w'=>e= .returned (.func (.func 325) #[] #[pn (E ⟨w.heap.size,0,O⟩)])/\w'=w.alloc (cl #[v] 106):=by
 subst b;go_enter func245,ntmps245
 have a:=JN;go_wp2;go_ret;exact⟨rfl,rfl⟩
theorem zcN (x:Nat->Nat->Value)(c:Option Addr)(b n cap a:Nat)(k:n<=1000000)(g:0<n->c=E ⟨b,0,O⟩):
 SeqL pg 244 #[pn (E ⟨a,0,O⟩)] (zea x n) (fun W=>W.cell? ⟨a,0,O⟩=E (V c n cap)/\∀i j,i<n->j<6->W.cell? ⟨b,i*6+j,O⟩=E (x i j)):=by
 intro h J f q W r w hC d h0;have e:=(hC 0 q W h0).1.1;have o:=zi hC;have y:=zi d;have l:Tryz.prog.follows .mixedOrders=true:=kr;clear d hC;refine JO func244 ntmps244 (h:=?_);have d:a<W.heap.size:=zN e;gi_wp2;refine(zS.2 (zeb _ _ _ _ rfl _)).mono ?_;rintro z l ⟨rfl,rfl⟩;gi_wp2;have d:a<W.heap.size:=zN e;refine zaE (zdO c b n cap (W.heap.size+1) k g) rfl (ZJ func325 kr rfl) (fun v g=>?_)
  (fun k M A=>J k M A/\A.cell? ⟨W.heap.size,0,O⟩=E (.func (.yield h) #[] #[])/\A.cell? ⟨W.heap.size+1,0,O⟩=E (V c n cap)/\¬M W.heap.size/\¬M (W.heap.size+1)) (fun s k A=>s= .ret/\f k A) q ?hI ?hIx ?hC ?h0 ?round ?done ?stop
 case hI=>
  rintro k M A B ⟨a,d,e,l,m⟩ f;exact⟨r _ _ _ _ a (f.mono so),f.cell d,f.cell e,l,m⟩
 case hIx=>
  rintro s k A B ⟨a,d⟩ f;exact⟨a,w _ _ _ d (f.mono so)⟩
 case hC=>
  rintro k M A ⟨a,d,e,l,m⟩;exact⟨e,(o.out k M A a).2⟩
 case h0=>
  refine⟨r _ _ _ _ h0 ((zw.alloc _ _ _).trans (zw.alloc _ _ _)),?_,?_,?_,?_⟩;·exact((Qp W 346 (.func (.yield h) #[] #[])).alloc _).cell
  ·have:=(Qp (W.alloc (cl #[.func (.yield h) #[] #[]] 346)) 106 (V c n cap)).cell;rwa [qx]at this
  ·intro h;have:=(o.out 0 q W h0).2 _ h;omega
  ·intro h;have:=(o.out 0 q W h0).2 _ h;omega
 case round=>
  rintro C k v M A g ⟨a,d,e,l,m⟩;have t:k<n:=by
   have:=(zn.1 g).1;rwa [Q9]at this
  rw[zbL t]at g;injection g with g
  subst g;have u:=zi (fun i j=>((o.out k M A a).1.2 i j));unfold Qr;gi_wp2;refine⟨Wr.refl _ _,fun c q=>?_⟩;have B:=q.cell d;have o:=fun j v=>q.cell (u.out k j t v)
  have u:c.cell? ⟨b,k*6,O⟩=E (x k 0):=o 0 om;have u:=o 1 om;have u:=o 2 om;have u:=o 3 om;have u:=o 4 om;have u:=o 5 om;have u:=r _ _ _ _ a ((q.trans (zw.drew _ _)).mono so);obtain⟨_,_,_,_,v,o⟩:=zd6 C 0 (y.out k _ M c.drew (za1 t) u);gi_wp2;gi_region_with_o (refine o.mono ?_;rintro z t ⟨u,rfl,t⟩)
  all_goals clear o v
  all_goals gi_wp2
  all_goals (rename_i o;cases u<;>simp at o)
  all_goals first
   |exact⟨(Wr.drew _ _).trans (t.out.2 rfl).1,rfl,(t.out.2 rfl).2⟩
   |(
    obtain⟨u,y,z,o⟩:=t.out.1 rfl;have t:W.heap.size+1<c.heap.size:=zN (q.cell e);have t:=q.size;refine⟨(Wr.drew _ _).trans u,y,⟨z,u.cell (p:=⟨W.heap.size,0,O⟩) l B,u.cell (p:=⟨W.heap.size+1,0,O⟩) m (q.cell e),fun h=>?_,fun h=>?_⟩,fun y v=>?_⟩
    ·rcases o _ h with h|h
     ·exact l h
     ·have:c.heap.size<=W.heap.size:=h;omega
    ·rcases o _ h with h|h
     ·exact m h
     ·have:c.heap.size<=W.heap.size+1:=h;omega
    ·rcases o y v with h|h
     ·exact .inl h
     ·exact .inr (zL t h))
 case done=>
  rintro D M A h ⟨a,d,e,l,m⟩ c;gi_wp2;refine qt c ?_;refine⟨_,qY rfl _ _ _,⟨_,rfl⟩,.inl ⟨M,?_⟩⟩;rw[jD];rw[Q9]at a;exact r _ _ _ _ a (zw.putObj _ (by simp at h;omega) c rfl)
 case stop=>
  rintro D s k A h f ⟨rfl,a⟩ c;gi_wp2;refine qt c ?_;refine⟨_,qY rfl _ _ _,⟨_,rfl⟩,.inr ⟨k,?_,w _ _ _ a (zw.putObj _ (by simp at h;omega) c rfl)⟩⟩;rw[jD];rwa [Q9]at f
 ·obtain⟨i,_,rfl⟩:=ZC.1 g;rfl
def rowVs (x:Nat->Nat->Value)(n:Nat):List (Array Value):=(List.range n).map fun i=>#[Value.agg #[x i 0,x i 1,x i 2,x i 3]]
theorem zfH {x:Nat->Nat->Value}{n k:Nat}(h:k<n):(rowVs x n)[k]? =E #[Value.agg #[x k 0,x k 1,x k 2,x k 3]]:=by
 simp[rowVs,h]
theorem zdx (x:Nat->Nat->Value)(n:Nat):(rowVs x n).length=n:=by simp[rowVs]
theorem zhw (a:Option Addr)(b n cap c:Nat)(d:n<=1000000)(j:0<n->a=E ⟨b,0,O⟩):
 SeqL pg 326 #[pn (E ⟨c,0,O⟩)] (ptrs b 4 n) (fun W=>W.cell? ⟨c,0,O⟩=E (V a n cap)):=by
 intro l J a c W a a a e d;have f:=(a 0 c W d).1;have f:=zi a;have g:=zi e;clear e a;refine zcE func326 ntmps326 (h:=?_);gi_wp2;gi_loopw [6] (fun i wr=>∃(k:Nat) (M:Nat->Prop),i=it .i64 (k:Int)/\k<=n/\J k M wr) (fun i _=>n-(intOf i).toNat)
 case atStart=>exact⟨0,c,rfl,qp _,d⟩
 case round=>
  obtain⟨k,M,rfl,_,a⟩:=hrel;have c:=(f.out k M wr a).1;by_cases d:k<n
  ·obtain rfl:=j om;gi_wp2;refine jt (g.out k _ _ _ (zbL d) a) ?_ ?_
   ·rintro f ⟨_,e,c,_⟩;gi_wp2;go_roundw
    case rel=>exact⟨k+1,e,sp,d,c⟩
    case measure=>simp[intOf];omega
   ·intro f c;gi_wp2;refine zH (qY rfl _ _ _) rfl ?_;exact⟨⟨_,rfl⟩,.inr ⟨k,by rw[Q9];exact d,c.2⟩⟩
  ·gi_wp2;go_end0
   have c:k=n:=om;subst c;rw[Q9];exact⟨⟨_,rfl⟩,.inl ⟨M,a⟩⟩
theorem zir (v:Value)(a:Option Addr)(l c:Nat)(b:v=V a l c)(w:H):
 Calls pg 247 #[v] w fun e w'=>e= .returned (.func (.func 326) #[] #[pn (E ⟨w.heap.size,0,O⟩)])/\w'=w.alloc (cl #[v] 107):=by
 subst b;go_enter func247,ntmps247
 have a:=JN;go_wp2;go_ret;exact⟨rfl,rfl⟩
theorem zi2 (x:Nat->Nat->Value)(c:Option Addr)(b n cap a:Nat)(k:n<=1000000)(g:0<n->c=E ⟨b,0,O⟩):
 SeqL pg 246 #[pn (E ⟨a,0,O⟩)] (rowVs x n) (fun W=>W.cell? ⟨a,0,O⟩=E (V c n cap)/\∀i j,i<n->j<4->W.cell? ⟨b,i*4+j,O⟩=E (x i j)):=by
 intro h J f q W r w hC d h0;have e:=(hC 0 q W h0).1.1;have o:=zi hC;have y:=zi d;have l:Tryz.prog.follows .mixedOrders=true:=kr;clear d hC;refine JO func246 ntmps246 (h:=?_);have d:a<W.heap.size:=zN e;gi_wp2;refine(zS.2 (zir _ _ _ _ rfl _)).mono ?_;rintro z l ⟨rfl,rfl⟩;gi_wp2;have d:a<W.heap.size:=zN e;refine zaE (zhw c b n cap (W.heap.size+1) k g) rfl (ZJ func326 kr rfl) (fun v g=>?_)
  (fun k M A=>J k M A/\A.cell? ⟨W.heap.size,0,O⟩=E (.func (.yield h) #[] #[])/\A.cell? ⟨W.heap.size+1,0,O⟩=E (V c n cap)/\¬M W.heap.size/\¬M (W.heap.size+1)) (fun s k A=>s= .ret/\f k A) q ?hI ?hIx ?hC ?h0 ?round ?done ?stop
 case hI=>
  rintro k M A B ⟨a,d,e,l,m⟩ f;exact⟨r _ _ _ _ a (f.mono so),f.cell d,f.cell e,l,m⟩
 case hIx=>
  rintro s k A B ⟨a,d⟩ f;exact⟨a,w _ _ _ d (f.mono so)⟩
 case hC=>
  rintro k M A ⟨a,d,e,l,m⟩;exact⟨e,(o.out k M A a).2⟩
 case h0=>
  refine⟨r _ _ _ _ h0 ((zw.alloc _ _ _).trans (zw.alloc _ _ _)),?_,?_,?_,?_⟩;·exact((Qp W 351 (.func (.yield h) #[] #[])).alloc _).cell
  ·have:=(Qp (W.alloc (cl #[.func (.yield h) #[] #[]] 351)) 107 (V c n cap)).cell;rwa [qx]at this
  ·intro h;have:=(o.out 0 q W h0).2 _ h;omega
  ·intro h;have:=(o.out 0 q W h0).2 _ h;omega
 case round=>
  rintro C k v M A g ⟨a,d,e,l,m⟩;have t:k<n:=by
   have:=(zn.1 g).1;rwa [Q9]at this
  rw[zbL t]at g;injection g with g
  subst g;have u:=zi (fun i j=>((o.out k M A a).1.2 i j));unfold Qr;gi_wp2;refine⟨Wr.refl _ _,fun c o=>?_⟩;have B:=o.cell d;have q:=fun j v=>o.cell (u.out k j t v)
  have u:c.cell? ⟨b,k*4,O⟩=E (x k 0):=q 0 om;have u:=q 1 om;have u:=q 2 om;have u:=q 3 om;have u:=r _ _ _ _ a ((o.trans (zw.drew _ _)).mono so);obtain⟨_,_,_,_,v,q⟩:=zd6 C 0 (y.out k _ M c.drew (zfH t) u);gi_wp2;gi_region_with_o (refine q.mono ?_;rintro z t ⟨u,rfl,t⟩)
  all_goals clear q v
  all_goals gi_wp2
  all_goals (rename_i q;cases u<;>simp at q)
  all_goals first
   |exact⟨(Wr.drew _ _).trans (t.out.2 rfl).1,rfl,(t.out.2 rfl).2⟩
   |(
    obtain⟨u,y,z,q⟩:=t.out.1 rfl;have t:W.heap.size+1<c.heap.size:=zN (o.cell e);have t:=o.size;refine⟨(Wr.drew _ _).trans u,y,⟨z,u.cell (p:=⟨W.heap.size,0,O⟩) l B,u.cell (p:=⟨W.heap.size+1,0,O⟩) m (o.cell e),fun h=>?_,fun h=>?_⟩,fun y v=>?_⟩
    ·rcases q _ h with h|h
     ·exact l h
     ·have:c.heap.size<=W.heap.size:=h;omega
    ·rcases q _ h with h|h
     ·exact m h
     ·have:c.heap.size<=W.heap.size+1:=h;omega
    ·rcases q y v with h|h
     ·exact .inl h
     ·exact .inr (zL t h))
 case done=>
  rintro D M A h ⟨a,d,e,l,m⟩ c;gi_wp2;refine qt c ?_;refine⟨_,qY rfl _ _ _,⟨_,rfl⟩,.inl ⟨M,?_⟩⟩;rw[zdx];rw[Q9]at a;exact r _ _ _ _ a (zw.putObj _ (by simp at h;omega) c rfl)
 case stop=>
  rintro D s k A h f ⟨rfl,a⟩ c;gi_wp2;refine qt c ?_;refine⟨_,qY rfl _ _ _,⟨_,rfl⟩,.inr ⟨k,?_,w _ _ _ a (zw.putObj _ (by simp at h;omega) c rfl)⟩⟩;rw[zdx];rwa [Q9]at f
 ·obtain⟨i,_,rfl⟩:=ZC.1 g;rfl
def zd3 (x:Nat->Nat->Value)(n:Nat):List (Array Value):=(List.range n).map fun i=>#[Value.agg #[x i 0,x i 1]]
theorem zeD {x:Nat->Nat->Value}{n k:Nat}(h:k<n):(zd3 x n)[k]? =E #[Value.agg #[x k 0,x k 1]]:=by
 simp[zd3,h]
theorem zcd (x:Nat->Nat->Value)(n:Nat):(zd3 x n).length=n:=by simp[zd3]
theorem zec (a:Option Addr)(b n cap c:Nat)(d:n<=1000000)(j:0<n->a=E ⟨b,0,O⟩):
 SeqL pg 367 #[pn (E ⟨c,0,O⟩)] (ptrs b 2 n) (fun W=>W.cell? ⟨c,0,O⟩=E (V a n cap)):=by
 intro l J a c W a a a e d;have f:=(a 0 c W d).1;have f:=zi a;have g:=zi e;clear e a;refine zcE func367 ntmps367 (h:=?_);gi_wp2;gi_loopw [6] (fun i wr=>∃(k:Nat) (M:Nat->Prop),i=it .i64 (k:Int)/\k<=n/\J k M wr) (fun i _=>n-(intOf i).toNat)
 case atStart=>exact⟨0,c,rfl,qp _,d⟩
 case round=>
  obtain⟨k,M,rfl,_,a⟩:=hrel;have c:=(f.out k M wr a).1;by_cases d:k<n
  ·obtain rfl:=j om;gi_wp2;refine jt (g.out k _ _ _ (zbL d) a) ?_ ?_
   ·rintro f ⟨_,e,c,_⟩;gi_wp2;go_roundw
    case rel=>exact⟨k+1,e,sp,d,c⟩
    case measure=>simp[intOf];omega
   ·intro f c;gi_wp2;refine zH (qY rfl _ _ _) rfl ?_;exact⟨⟨_,rfl⟩,.inr ⟨k,by rw[Q9];exact d,c.2⟩⟩
  ·gi_wp2;go_end0
   have c:k=n:=om;subst c;rw[Q9];exact⟨⟨_,rfl⟩,.inl ⟨M,a⟩⟩
theorem zer (v:Value)(a:Option Addr)(l c:Nat)(b:v=V a l c)(w:H):
 Calls pg 323 #[v] w fun e w'=>e= .returned (.func (.func 367) #[] #[pn (E ⟨w.heap.size,0,O⟩)])/\w'=w.alloc (cl #[v] 158):=by
 subst b;go_enter func323,ntmps323
 have a:=JN;go_wp2;go_ret;exact⟨rfl,rfl⟩
theorem zhx (x:Nat->Nat->Value)(c:Option Addr)(b n cap a:Nat)(k:n<=1000000)(g:0<n->c=E ⟨b,0,O⟩):
 SeqL pg 327 #[pn (E ⟨a,0,O⟩)] (zd3 x n) (fun W=>W.cell? ⟨a,0,O⟩=E (V c n cap)/\∀i j,i<n->j<2->W.cell? ⟨b,i*2+j,O⟩=E (x i j)):=by
 intro h J f q W r w hC d h0;have e:=(hC 0 q W h0).1.1;have o:=zi hC;have y:=zi d;have l:Tryz.prog.follows .mixedOrders=true:=kr;clear d hC;refine JO func327 ntmps327 (h:=?_);have d:a<W.heap.size:=zN e;gi_wp2;refine(zS.2 (zer _ _ _ _ rfl _)).mono ?_;rintro z l ⟨rfl,rfl⟩;gi_wp2;have d:a<W.heap.size:=zN e;refine zaE (zec c b n cap (W.heap.size+1) k g) rfl (ZJ func367 kr rfl) (fun v g=>?_)
  (fun k M A=>J k M A/\A.cell? ⟨W.heap.size,0,O⟩=E (.func (.yield h) #[] #[])/\A.cell? ⟨W.heap.size+1,0,O⟩=E (V c n cap)/\¬M W.heap.size/\¬M (W.heap.size+1)) (fun s k A=>s= .ret/\f k A) q ?hI ?hIx ?hC ?h0 ?round ?done ?stop
 case hI=>
  rintro k M A B ⟨a,d,e,l,m⟩ f;exact⟨r _ _ _ _ a (f.mono so),f.cell d,f.cell e,l,m⟩
 case hIx=>
  rintro s k A B ⟨a,d⟩ f;exact⟨a,w _ _ _ d (f.mono so)⟩
 case hC=>
  rintro k M A ⟨a,d,e,l,m⟩;exact⟨e,(o.out k M A a).2⟩
 case h0=>
  refine⟨r _ _ _ _ h0 ((zw.alloc _ _ _).trans (zw.alloc _ _ _)),?_,?_,?_,?_⟩;·exact((Qp W 250 (.func (.yield h) #[] #[])).alloc _).cell
  ·have:=(Qp (W.alloc (cl #[.func (.yield h) #[] #[]] 250)) 158 (V c n cap)).cell;rwa [qx]at this
  ·intro h;have:=(o.out 0 q W h0).2 _ h;omega
  ·intro h;have:=(o.out 0 q W h0).2 _ h;omega
 case round=>
  rintro C k v M A g ⟨a,d,e,l,m⟩;have q:k<n:=by
   have:=(zn.1 g).1;rwa [Q9]at this
  rw[zbL q]at g;injection g with g
  subst g;have u:=zi (fun i j=>((o.out k M A a).1.2 i j));unfold Qr;gi_wp2;refine⟨Wr.refl _ _,fun c o=>?_⟩;have B:=o.cell d;have t:=fun j v=>o.cell (u.out k j q v)
  have u:c.cell? ⟨b,k*2,O⟩=E (x k 0):=t 0 om;have u:=t 1 om;have t:=r _ _ _ _ a ((o.trans (zw.drew _ _)).mono so);obtain⟨_,_,_,_,v,u⟩:=zd6 C 0 (y.out k _ M c.drew (zeD q) t);gi_wp2;gi_region_with_o (refine u.mono ?_;rintro z q ⟨y,rfl,t⟩)
  all_goals clear u v
  all_goals gi_wp2
  all_goals (rename_i q;cases y<;>simp at q)
  all_goals first
   |exact⟨(Wr.drew _ _).trans (t.out.2 rfl).1,rfl,(t.out.2 rfl).2⟩
   |(
    obtain⟨u,y,z,q⟩:=t.out.1 rfl;have t:W.heap.size+1<c.heap.size:=zN (o.cell e);have t:=o.size;refine⟨(Wr.drew _ _).trans u,y,⟨z,u.cell (p:=⟨W.heap.size,0,O⟩) l B,u.cell (p:=⟨W.heap.size+1,0,O⟩) m (o.cell e),fun h=>?_,fun h=>?_⟩,fun y v=>?_⟩
    ·rcases q _ h with h|h
     ·exact l h
     ·have:c.heap.size<=W.heap.size:=h;omega
    ·rcases q _ h with h|h
     ·exact m h
     ·have:c.heap.size<=W.heap.size+1:=h;omega
    ·rcases q y v with h|h
     ·exact .inl h
     ·exact .inr (zL t h))
 case done=>
  rintro D M A h ⟨a,d,e,l,m⟩ c;gi_wp2;refine qt c ?_;refine⟨_,qY rfl _ _ _,⟨_,rfl⟩,.inl ⟨M,?_⟩⟩;rw[zcd];rw[Q9]at a;exact r _ _ _ _ a (zw.putObj _ (by simp at h;omega) c rfl)
 case stop=>
  rintro D s k A h f ⟨rfl,a⟩ c;gi_wp2;refine qt c ?_;refine⟨_,qY rfl _ _ _,⟨_,rfl⟩,.inr ⟨k,?_,w _ _ _ a (zw.putObj _ (by simp at h;omega) c rfl)⟩⟩;rw[zcd];rwa [Q9]at f
 ·obtain⟨i,_,rfl⟩:=ZC.1 g;rfl
end Go.Proofs.YtnhfdcfnojnofaaGreatDoor
