import Derived.Test.YtnhfdcfnojnofaaGreatDoorAds1Z19
open Option renaming none->O,some->E
open Go.Value renaming slice->V,bool->G,pointer->pn,int->it,agg->ag
open Go.Obj renaming cells->cl
open Go renaming World->H
open Go.Proofs.Tryz renaming prog->pg
open Go.Proofs.Tryz
set_option linter.unusedSimpArgs false
set_option linter.unusedVariables false
set_option maxHeartbeats 2000000
set_option maxRecDepth 100000
namespace Go.Proofs.YtnhfdcfnojnofaaGreatDoor
open Go.RowKit
attribute [local go_sem] qm qW ZR
structure WT where
 b:Bool
 s:Option Addr×Nat×Nat
def WT.sv (t:WT):Value:=V t.s.1 t.s.2.1 t.s.2.2
def WT.val (t:WT):Value:=ag #[G t.b,t.sv]
def WT.cells (t:WT):List Value:= [G t.b,t.sv]
structure DP where
 r:Option Addr×Nat×Nat
 f:T.Tri
def DP.rv (t:DP):Value:=V t.r.1 t.r.2.1 t.r.2.2
def DP.val (t:DP):Value:=ag #[t.rv,G t.f.b,t.f.up,t.f.down]
def DP.cells (t:DP):List Value:= [t.rv,G t.f.b,t.f.up,t.f.down]
theorem Recs.keep {B:Nat}{w w':H}{v:Value}{size:Nat}{a:List (List Value)}(h:T.Recs w v size a)(b:zw B w w'):T.Recs w' v size a:=by
 rcases h with h|⟨g,i,a,c,d,e,f⟩
 ·exact Or.inl h
 ·exact Or.inr ⟨g,i,a,c,d,zv e b.size,fun i a c j u d=>b.cell (f i a c j u d)⟩
theorem zjm {l:Nat}(n:Nat){P:Program}{v:Array Value}{W:H}{d f:H->Prop}
 (h:YieldAt Fence.wide 0 P l v W fun e W'=>(e= .returned (G true)/\d W')\/(e= .returned (G false)/\f W')):
 ∃c tmps a b,(Instr.yield l v).run P W= .ok (.round l c tmps a b) W/\
  RoundIn Fence.wide n P l c tmps a b W fun e W'=>∃t,e= .returned (G t)/\Hid ((t=true->d W')/\(t=false->f W')):=by
 obtain⟨c,tmps,a,b,f,d⟩:=YieldAt.any n h;refine⟨c,tmps,a,b,f,d.mono ?_⟩;rintro e W' (⟨rfl,a⟩|⟨rfl,a⟩);·exact⟨true,rfl,fun _=>a,fun h=>by cases h⟩
 ·exact⟨false,rfl,(fun h=>by cases h),fun _=>a⟩
theorem zef (ts:List WT)(a:Option Addr)(cap b:Nat)(c:ts.length<=1000000):
 J0 pg 285 #[pn (E ⟨b,0,O⟩)] ts.length (fun k v _=>∃t,ts[k]? =E t/\v=#[t.val]) (fun W=>W.cell? ⟨b,0,O⟩=E (V a ts.length cap)/\T.Recs W (V a ts.length cap) 2 (ts.map WT.cells)):=by
 intro l J a b W j a a d c;have l:=(a 0 b W c).1.1;have e:=zi a;have g:=zi d;clear d a;refine zcE func285 ntmps285 (h:=?_);gi_wp2;gi_loopw [7] (fun i wr=>∃(k:Nat) (M:Nat->Prop),i=it .i64 (k:Int)/\k<=ts.length/\J k M wr/\W.heap.size<=wr.heap.size) (fun i _=>ts.length-(intOf i).toNat)
 case atStart=>exact⟨0,b,rfl,qp _,c,zh _⟩
 case round=>
  obtain⟨k,M,rfl,_,c,_⟩:=hrel;by_cases a:k<ts.length
  ·have d:=zj a;obtain⟨_,_,rfl,_,f⟩:=(e.out k M wr c).1.2.at (by intro e;rw[ZU]at e;rw[e]at a;simp at a);have b:=f k _ (by rw[zQ,d];rfl);have e:=zi (fun i m=>g.out k #[(WT.val ts[k])] M i a ⟨_,d,rfl⟩ m);clear f d;generalize ts[k]=t at *;obtain⟨_,_,_,_⟩:=t;have d:=b 0 _ rfl;have f:=b 1 _ rfl;rw[qy]at d;simp only[WT.cells,WT.sv]at d f;simp only[WT.val,WT.sv]at e;clear b l;gi_wp2;refine jt (e.out _ (j _ _ _ _ c (zw.alloc _ _ _))) ?_ ?_
   ·rintro e ⟨f,d,b,_⟩;gi_wp2;go_roundw
    case rel=>exact⟨k+1,d,sp,a,b,by have:=f.size;simp at this;omega⟩
    case measure=>simp[intOf];omega
   ·intro e b;gi_wp2;refine zH (qY rfl _ _ _) rfl ?_;exact⟨⟨_,rfl⟩,.inr ⟨k,a,b.2⟩⟩
  ·gi_wp2;go_end0
   have a:k=ts.length:=om;subst a;exact⟨⟨_,rfl⟩,.inl ⟨M,c⟩⟩
theorem zg6 (a:Option Addr)(l c:Nat)(w:H):
 Calls pg 179 #[V a l c] w fun e w'=>e= .returned (.func (.func 285) #[] #[pn (E ⟨w.heap.size,0,O⟩)])/\w'=w.alloc (cl #[V a l c] 158):=by
 go_enter func179,ntmps179
 have a:=JN;go_wp2;go_ret;exact⟨rfl,rfl⟩
theorem zg7 (ts:List T.Tri)(a:Option Addr)(cap b:Nat)(c:ts.length<=1000000):
 J0 pg 377 #[pn (E ⟨b,0,O⟩)] ts.length (fun k v _=>∃t,ts[k]? =E t/\v=#[t.val]) (fun W=>W.cell? ⟨b,0,O⟩=E (V a ts.length cap)/\T.Recs W (V a ts.length cap) 3 (ts.map T.Tri.cells)):=by
 intro l J a b W j a a d c;have l:=(a 0 b W c).1.1;have e:=zi a;have g:=zi d;clear d a;refine zcE func377 ntmps377 (h:=?_);gi_wp2;gi_loopw [7] (fun i wr=>∃(k:Nat) (M:Nat->Prop),i=it .i64 (k:Int)/\k<=ts.length/\J k M wr/\W.heap.size<=wr.heap.size) (fun i _=>ts.length-(intOf i).toNat)
 case atStart=>exact⟨0,b,rfl,qp _,c,zh _⟩
 case round=>
  obtain⟨k,M,rfl,_,c,_⟩:=hrel;by_cases a:k<ts.length
  ·have d:=zj a;obtain⟨_,_,rfl,_,f⟩:=(e.out k M wr c).1.2.at (by intro e;rw[ZU]at e;rw[e]at a;simp at a);have b:=f k _ (by rw[zQ,d];rfl);have e:=zi (fun i m=>g.out k #[(T.Tri.val ts[k])] M i a ⟨_,d,rfl⟩ m);clear f d;generalize ts[k]=t at *;obtain⟨_,⟨_,_,_⟩,⟨_,_,_⟩⟩:=t;have d:=b 0 _ rfl;have f:=b 1 _ rfl;have g:=b 2 _ rfl;rw[qy]at d;simp only[T.Tri.cells,T.Tri.up,T.Tri.down]at d f g;simp only[T.Tri.val,T.Tri.up,T.Tri.down]at e;clear b l;gi_wp2;refine jt (e.out _ (j _ _ _ _ c (zw.alloc _ _ _))) ?_ ?_
   ·rintro e ⟨f,d,b,_⟩;gi_wp2;go_roundw
    case rel=>exact⟨k+1,d,sp,a,b,by have:=f.size;simp at this;omega⟩
    case measure=>simp[intOf];omega
   ·intro e b;gi_wp2;refine zH (qY rfl _ _ _) rfl ?_;exact⟨⟨_,rfl⟩,.inr ⟨k,a,b.2⟩⟩
  ·gi_wp2;go_end0
   have a:k=ts.length:=om;subst a;exact⟨⟨_,rfl⟩,.inl ⟨M,c⟩⟩
theorem zhG (a:Option Addr)(l c:Nat)(w:H):
 Calls pg 338 #[V a l c] w fun e w'=>e= .returned (.func (.func 377) #[] #[pn (E ⟨w.heap.size,0,O⟩)])/\w'=w.alloc (cl #[V a l c] 363):=by
 go_enter func338,ntmps338
 have a:=JN;go_wp2;go_ret;exact⟨rfl,rfl⟩
theorem zg8 (ts:List DP)(a:Option Addr)(cap b:Nat)(c:ts.length<=1000000):
 J0 pg 384 #[pn (E ⟨b,0,O⟩)] ts.length (fun k v _=>∃t,ts[k]? =E t/\v=#[t.val]) (fun W=>W.cell? ⟨b,0,O⟩=E (V a ts.length cap)/\T.Recs W (V a ts.length cap) 4 (ts.map DP.cells)):=by
 intro l J a b W j a a d c;have l:=(a 0 b W c).1.1;have e:=zi a;have g:=zi d;clear d a;refine zcE func384 ntmps384 (h:=?_);gi_wp2;gi_loopw [7] (fun i wr=>∃(k:Nat) (M:Nat->Prop),i=it .i64 (k:Int)/\k<=ts.length/\J k M wr/\W.heap.size<=wr.heap.size) (fun i _=>ts.length-(intOf i).toNat)
 case atStart=>exact⟨0,b,rfl,qp _,c,zh _⟩
 case round=>
  obtain⟨k,M,rfl,_,c,_⟩:=hrel;by_cases a:k<ts.length
  ·have d:=zj a;obtain⟨_,_,rfl,_,f⟩:=(e.out k M wr c).1.2.at (by intro e;rw[ZU]at e;rw[e]at a;simp at a);have b:=f k _ (by rw[zQ,d];rfl);have e:=zi (fun i m=>g.out k #[(DP.val ts[k])] M i a ⟨_,d,rfl⟩ m);clear f d;generalize ts[k]=t at *;obtain⟨⟨_,_,_⟩,⟨_,⟨_,_,_⟩,⟨_,_,_⟩⟩⟩:=t;have d:=b 0 _ rfl;have f:=b 1 _ rfl;have g:=b 2 _ rfl;have i:=b 3 _ rfl;rw[qy]at d;simp only[DP.cells,DP.rv,T.Tri.up,T.Tri.down]at d f g i;simp only[DP.val,DP.rv,T.Tri.up,T.Tri.down]at e;clear b l;gi_wp2;refine jt (e.out _ (j _ _ _ _ c (zw.alloc _ _ _))) ?_ ?_
   ·rintro e ⟨f,d,b,_⟩;gi_wp2;go_roundw
    case rel=>exact⟨k+1,d,sp,a,b,by have:=f.size;simp at this;omega⟩
    case measure=>simp[intOf];omega
   ·intro e b;gi_wp2;refine zH (qY rfl _ _ _) rfl ?_;exact⟨⟨_,rfl⟩,.inr ⟨k,a,b.2⟩⟩
  ·gi_wp2;go_end0
   have a:k=ts.length:=om;subst a;exact⟨⟨_,rfl⟩,.inl ⟨M,c⟩⟩
theorem zhH (a:Option Addr)(l c:Nat)(w:H):
 Calls pg 373 #[V a l c] w fun e w'=>e= .returned (.func (.func 384) #[] #[pn (E ⟨w.heap.size,0,O⟩)])/\w'=w.alloc (cl #[V a l c] 257):=by
 go_enter func373,ntmps373
 have a:=JN;go_wp2;go_ret;exact⟨rfl,rfl⟩
theorem zfQ (ts:List WT)(a:List WT)(g:ts.length=a.length)(b c:Option Addr)(cap f d e:Nat)(i:ts.length<=1000000):
 J0 pg 349 #[pn (E ⟨d,0,O⟩),pn (E ⟨e,0,O⟩)] ts.length (fun k v _=>∃t s,ts[k]? =E t/\a[k]? =E s/\v=#[t.val,s.val]) (fun W=>W.cell? ⟨d,0,O⟩=E (V b ts.length cap)/\W.cell? ⟨e,0,O⟩=E (V c ts.length f)/\T.Recs W (V b ts.length cap) 2 (ts.map WT.cells)/\T.Recs W (V c ts.length f) 2 (a.map WT.cells)):=by
 intro l J b c W r b b e d;obtain⟨u,w,-,-⟩:=(b 0 c W d).1;have f:=zi b;have p:=zi e;have l:=zi g;have i:Tryz.prog.follows .mixedOrders=true:=kr;clear e b g;refine zcE func349 ntmps349 (h:=?_);gi_wp2;gi_loopw [10] (fun i wr=>∃(k:Nat) (M:Nat->Prop),i=it .i64 (k:Int)/\k<=ts.length/\J k M wr/\W.heap.size<=wr.heap.size) (fun i _=>ts.length-(intOf i).toNat)
 case atStart=>exact⟨0,c,rfl,qp _,d,zh _⟩
 case round=>
  obtain⟨k,M,rfl,_,g,_⟩:=hrel;by_cases b:k<ts.length
  ·have j:=zj b;have c:k<a.length:=by have:=l.out;omega
   have i:=zj c;obtain⟨_,_,n,o⟩:=(f.out k M wr g).1;obtain⟨_,_,rfl,_,l⟩:=n.at (by intro e;rw[ZU]at e;rw[e]at b;simp at b);obtain⟨_,_,rfl,_,m⟩:=o.at (by intro e;rw[ZU]at e;rw[e]at c;simp at c);have d:=l k _ (by rw[zQ,j];rfl);have f:=m k _ (by rw[zQ,i];rfl);have c:=zi (fun q x=>p.out k #[(WT.val ts[k]),(WT.val a[k])] M q b ⟨_,_,j,i,rfl⟩ x);clear l j m i n o;generalize ts[k]=t at *;generalize a[k]=s at *;obtain⟨_,_,_,_⟩:=t;obtain⟨_,_,_,_⟩:=s;have a:=d 0 _ rfl;have i:=d 1 _ rfl;rw[qy]at a;simp only[WT.cells,WT.sv]at a i;have a:=f 0 _ rfl;have i:=f 1 _ rfl;rw[qy]at a;simp only[WT.cells,WT.sv]at a i;simp only[WT.val,WT.sv]at c;clear d f u w;obtain⟨_,_,_,_,d,a⟩:=zjm 0 (c.out wr.drew (r _ _ _ _ g (zw.drew _ wr)));clear c;gi_wp2;gi_region_with_o (refine a.mono ?_;rintro e c ⟨t,rfl,c⟩)
   all_goals clear a d
   all_goals gi_wp2
   all_goals (rename_i a;cases t<;>simp at a)
   all_goals first
    |exact zH (qY rfl _ _ _) rfl ⟨⟨_,rfl⟩,.inr ⟨k,b,(c.out.2 rfl).2⟩⟩
    |(
     obtain⟨e,a,d,_⟩:=c.out.1 rfl;go_roundw
     case rel=>exact⟨k+1,a,sp,b,d,by have:=e.size;simp at this;omega⟩
     case measure=>simp[intOf];omega)
  ·gi_wp2;go_end0
   have a:k=ts.length:=om;subst a;exact⟨⟨_,rfl⟩,.inl ⟨M,g⟩⟩
theorem zgr (a b:Option Addr)(l c d c':Nat)(w:H):
 Calls pg 281 #[V a l c,V b d c'] w fun e w'=>e= .returned (.func (.func 349) #[] #[pn (E ⟨w.heap.size,0,O⟩),pn (E ⟨w.heap.size+1,0,O⟩)])/\w'=(w.alloc (cl #[V a l c] 158)).alloc (cl #[V b d c'] 158):=by
 go_enter func281,ntmps281
 have a:=JN;go_wp2;go_ret;exact⟨rfl,rfl⟩
theorem zjn (ts:List T.Tri)(a:List WT)(g:ts.length=a.length)(b c:Option Addr)(cap f d e:Nat)(i:ts.length<=1000000):
 J0 pg 385 #[pn (E ⟨d,0,O⟩),pn (E ⟨e,0,O⟩)] ts.length (fun k v _=>∃t s,ts[k]? =E t/\a[k]? =E s/\v=#[t.val,s.val]) (fun W=>W.cell? ⟨d,0,O⟩=E (V b ts.length cap)/\W.cell? ⟨e,0,O⟩=E (V c ts.length f)/\T.Recs W (V b ts.length cap) 3 (ts.map T.Tri.cells)/\T.Recs W (V c ts.length f) 2 (a.map WT.cells)):=by
 intro l J b c W r b b e d;obtain⟨u,w,-,-⟩:=(b 0 c W d).1;have f:=zi b;have p:=zi e;have l:=zi g;have i:Tryz.prog.follows .mixedOrders=true:=kr;clear e b g;refine zcE func385 ntmps385 (h:=?_);gi_wp2;gi_loopw [10] (fun i wr=>∃(k:Nat) (M:Nat->Prop),i=it .i64 (k:Int)/\k<=ts.length/\J k M wr/\W.heap.size<=wr.heap.size) (fun i _=>ts.length-(intOf i).toNat)
 case atStart=>exact⟨0,c,rfl,qp _,d,zh _⟩
 case round=>
  obtain⟨k,M,rfl,_,g,_⟩:=hrel;by_cases b:k<ts.length
  ·have j:=zj b;have c:k<a.length:=by have:=l.out;omega
   have i:=zj c;obtain⟨_,_,n,o⟩:=(f.out k M wr g).1;obtain⟨_,_,rfl,_,l⟩:=n.at (by intro e;rw[ZU]at e;rw[e]at b;simp at b);obtain⟨_,_,rfl,_,m⟩:=o.at (by intro e;rw[ZU]at e;rw[e]at c;simp at c);have c:=l k _ (by rw[zQ,j];rfl);have f:=m k _ (by rw[zQ,i];rfl);have d:=zi (fun q x=>p.out k #[(T.Tri.val ts[k]),(WT.val a[k])] M q b ⟨_,_,j,i,rfl⟩ x);clear l j m i n o;generalize ts[k]=t at *;generalize a[k]=s at *;obtain⟨_,⟨_,_,_⟩,⟨_,_,_⟩⟩:=t;obtain⟨_,_,_,_⟩:=s;have a:=c 0 _ rfl;have i:=c 1 _ rfl;have j:=c 2 _ rfl;rw[qy]at a;simp only[T.Tri.cells,T.Tri.up,T.Tri.down]at a i j;have a:=f 0 _ rfl;have i:=f 1 _ rfl;rw[qy]at a;simp only[WT.cells,WT.sv]at a i;simp only[T.Tri.val,T.Tri.up,T.Tri.down,WT.val,WT.sv]at d;clear c f u w;obtain⟨_,_,_,_,f,a⟩:=zjm 0 (d.out wr.drew (r _ _ _ _ g (zw.drew _ wr)));clear d;gi_wp2;gi_region_with_o (refine a.mono ?_;rintro e c ⟨t,rfl,c⟩)
   all_goals clear a f
   all_goals gi_wp2
   all_goals (rename_i a;cases t<;>simp at a)
   all_goals first
    |exact zH (qY rfl _ _ _) rfl ⟨⟨_,rfl⟩,.inr ⟨k,b,(c.out.2 rfl).2⟩⟩
    |(
     obtain⟨e,a,d,_⟩:=c.out.1 rfl;go_roundw
     case rel=>exact⟨k+1,a,sp,b,d,by have:=e.size;simp at this;omega⟩
     case measure=>simp[intOf];omega)
  ·gi_wp2;go_end0
   have a:k=ts.length:=om;subst a;exact⟨⟨_,rfl⟩,.inl ⟨M,g⟩⟩
theorem zjZ (a b:Option Addr)(l c d c':Nat)(w:H):
 Calls pg 376 #[V a l c,V b d c'] w fun e w'=>e= .returned (.func (.func 385) #[] #[pn (E ⟨w.heap.size,0,O⟩),pn (E ⟨w.heap.size+1,0,O⟩)])/\w'=(w.alloc (cl #[V a l c] 363)).alloc (cl #[V b d c'] 158):=by
 go_enter func376,ntmps376
 have a:=JN;go_wp2;go_ret;exact⟨rfl,rfl⟩
end Go.Proofs.YtnhfdcfnojnofaaGreatDoor
