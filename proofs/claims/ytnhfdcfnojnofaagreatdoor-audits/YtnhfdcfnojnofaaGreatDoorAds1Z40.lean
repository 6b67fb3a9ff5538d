import Derived.Test.YtnhfdcfnojnofaaGreatDoorAds1Z33
import Derived.Test.YtnhfdcfnojnofaaGreatDoorAds1Z38
import Derived.Test.YtnhfdcfnojnofaaGreatDoorAds1Z39
import Derived.Test.YtnhfdcfnojnofaaGreatDoorAds1Z28
open Option renaming none->O,some->E
open Go.Value renaming slice->V,bool->G,string->gS,pointer->pn,tuple->tp,int->it,agg->ag
open Go.Obj renaming cells->cl
open Go renaming World->H
open Go.Proofs.Tryz renaming prog->pg
open Go.Proofs.Tryz
set_option linter.unusedSimpArgs false
set_option linter.unusedVariables false
set_option maxHeartbeats 2000000
set_option maxRecDepth 100000
namespace Go.Proofs.YtnhfdcfnojnofaaGreatDoor
open Go.RowKit
theorem Bd.sep {B a:Nat}{txt:List UInt8}{v:Value}{A:H}(h:Bd B a txt v A){k:Nat}{o:Obj}(ho:A.heap[k]? =E o)(g:∀c b,o≠cl c 5 b):v.ownBlock≠E k:=by
 intro e;obtain⟨_,_,⟨_,f|⟨_,_,d,b,i,_,a,_⟩⟩,_⟩:=h;·rw[f.1]at e;cases e
 ·rw[i]at e;simp[Value.ownBlock]at e;subst e;rw[ho]at a;injection a with a
  exact g d b a
theorem zjx (s:ByteArray)(m:Nat)(w:H)(hs:s.size<=1000000000):
 Calls pg 76 #[gS s,it .i64 (m:Nat)] w fun e w'=>∃(a:Option Addr) (l c:Nat),e= .returned (tp #[V a l c,G (T.okD s.data.toList m)])/\(T.okD s.data.toList m=true->NatV w' (V a l c) (qd s.data.toList))/\Below w.heap.size w w':=by
 have g:ByteArray.mk s.data.toList.toArray=s:=rfl;cases h:T.okD s.data.toList m with
 |true=>
  obtain⟨b,d,f⟩:=zbS h;rw[qN]at b d;refine(zbh s m w hs b d f).mono ?_;rintro e w' ⟨_,rfl,b,d⟩;obtain⟨a,l,c,rfl⟩:=b.slice;exact⟨a,l,c,rfl,fun _=>b,d⟩
 |false=>
  have b:=zkr h;rw[g]at b;refine(zc3 s m w om b).mono ?_;rintro e w' ⟨rfl,rfl⟩;exact⟨O,0,0,rfl,(fun h=>by cases h),zR _ _⟩
theorem ziF (s:ByteArray)(m:Nat)(w:H)(hs:s.size<=1000000000):
 Calls pg 56 #[gS s,it .i64 (m:Nat)] w fun e w'=>∃t:T.Tri,e= .returned (tp #[t.val,G (T.zaP (Lib.trimPrefix s.data.toList [45]) m)])/\(T.zaP (Lib.trimPrefix s.data.toList [45]) m=true->qP w' t.val (T.rP s.data.toList) (T.rQ s.data.toList))/\Below w.heap.size w w':=by
 cases h:T.zaP (Lib.trimPrefix s.data.toList [45]) m with
 |true=>
  refine(zgg s m w hs h).mono ?_;rintro e w' ⟨_,rfl,b,a⟩;obtain⟨t,rfl,-⟩:=b.shape;exact⟨t,rfl,fun _=>b,a⟩
 |false=>
  refine(zgL s m w hs h).mono ?_;rintro e w' ⟨d,b,l,f,c,i,g,rfl,a⟩;exact⟨⟨d,(b,l,f),(c,i,g)⟩,rfl,(fun h=>by cases h),a⟩
theorem zgM {l:List UInt8}{m M:Nat}(b:l.length<=m)(a:l.length<=M):T.okD l M=T.okD l m:=by
 unfold T.okD;rw[qH b,qH a]
theorem zii (L:List UInt8)(c:UInt8):(Lib.cut L [c]).1.length<=L.length/\(Lib.cut L [c]).2.1.length<=L.length:=by
 unfold Lib.cut;split
 ·refine⟨?_,?_⟩
  ·show(L.take _).length<=L.length
   rw[zU];omega
  ·show(L.drop _).length<=L.length
   rw[qu];omega
 ·simp
theorem zmv {l:List UInt8}{m M:Nat}(b:l.length<=m)(a:l.length<=M):T.zaP l M=T.zaP l m:=by
 obtain⟨_,_⟩:=zii l 47;unfold T.zaP;rw[zgM (l:=(Lib.cut l [47]).1) (m:=m) (M:=M) om om,zgM (l:=(Lib.cut l [47]).2.1) (m:=m) (M:=M) om om]
def zaW (w:H)(d:DP)(x:Nat×Int×Nat):Prop:=NatV w d.rv x.1/\qP w d.f.val x.2.1 x.2.2
theorem zaW.keep {B:Nat}{w w':H}{d:DP}{x:Nat×Int×Nat}(h:zaW w d x)(a:zw B w w'):zaW w' d x:=⟨h.1.keep a,h.2.keep a⟩
theorem zaW.ext {w w':H}{d:DP}{x:Nat×Int×Nat}(h:zaW w d x)(a:Ext w w'):zaW w' d x:=h.keep (B:=0) (zw.of_below a)
theorem zaW.wr {U:Nat->Prop}{w w':H}{d:DP}{x:Nat×Int×Nat}(h:zaW w d x)(b:Wr U w w')(a:∀k,U k->qU w k):zaW w' d x:=⟨h.1.wr b a,h.2.wr b a⟩
theorem zhL {w:H}{g:Nat}(a b c d:Value):Wr (fun k=>k=g) w ((((w.setCell ⟨g,0,O⟩ a).setCell ⟨g,1,O⟩ b).setCell ⟨g,2,O⟩ c).setCell ⟨g,3,O⟩ d):=
 (((qS (U:=fun k=>k=g) rfl _).trans (qS (U:=fun k=>k=g) rfl _)).trans (qS (U:=fun k=>k=g) rfl _)).trans (qS (U:=fun k=>k=g) rfl _)
theorem zjy (s:ByteArray)(hs:s.size<=1000000000)(w:H):
 Calls pg 372 #[gS s] w fun e w'=>∃d:DP,e= .returned (tp #[d.val,G (T.QG s.data.toList)])/\(T.QG s.data.toList=true->zaW w' d (T.partN s.data.toList,T.partP s.data.toList,T.partQ s.data.toList))/\Below w.heap.size w w':=by
 obtain⟨A,K⟩:=zii s.data.toList 58;rw[qN]at A K;have L:=fun W=>zmt s W om
 unfold T.QG T.partN T.partP T.partQ;rw[qN];have ht:=za7 (Lib.cut s.data.toList [58]).2.1 [45];generalize Lib.cut s.data.toList [58]=cc at *;obtain⟨a,b,_⟩:=cc;simp only at L A K ht⊢;have Z:(ByteArray.mk a.toArray).data.toList=a:=sp;have eb:(ByteArray.mk b.toArray).data.toList=b:=sp;have N:=fun W=>zjx ⟨a.toArray⟩ 9223372036854775807 W (by rw[Jc];omega)
 have P:=fun W=>ziF ⟨b.toArray⟩ 9223372036854775807 W (by rw[Jc];omega)
 rw[Z,zgM (l:=a) (m:=s.size) A om]at N;rw[eb,zmv (m:=s.size) om om]at P;have a1:=zi L;have HP:=zi N;have HQ:=zi P;clear L N P Z eb A K ht;generalize qd a=a3 at *;generalize T.rP b=a7 at *;generalize T.rQ b=a8 at *;generalize T.okD a s.size=a4 at *;generalize T.zaP (Lib.trimPrefix b [45]) s.size=a5 at *;have a0:Ext w (w.alloc (cl #[V O 0 0,G false,V O 0 0,V O 0 0] 454)):=(Ext.refl w).alloc _;have I:=zq w (cl #[V O 0 0,G false,V O 0 0,V O 0 0] 454);go_enter func372,ntmps372
 go_wp2_with fail
 refine(a1.out _).mono ?_;rintro e w1 ⟨rfl,_,rfl⟩;go_wp2_with fail
 refine(HP.out _).mono ?_;rintro e w2 ⟨S,X,U,rfl,hv,J⟩;have x2:=a0.trans (Ext.of (Qt J));have R:=((Ext.of (Qt J)).block _ (zf.1 I).1).trans I;go_wp2_with fail
 refine(HQ.out _).mono ?_;rintro e h ⟨⟨r,⟨q,u,t⟩,⟨v,y,x⟩⟩,rfl,M,z⟩;simp only[T.Tri.val,T.Tri.up,T.Tri.down]at M⊢;have x3:=x2.trans (Ext.of z);have f:=((Ext.of z).block _ (zf.1 R).1).trans R;have HV:=zi (fun D=>(hv D).below (Ext.of z));have HF:=zi M;clear hv M J z R x2 a0 I;have a6:=(zf.1 f).1;have c0:=c_ 0 f;have c1:=c_ 1 f;have c2:=c_ 2 f;have c3:=c_ 3 f;have f0:h.frozen? ⟨w.heap.size,0,O⟩=false:=T.ZX f;have f1:h.frozen? ⟨w.heap.size,1,O⟩=false:=T.ZX f;have f2:h.frozen? ⟨w.heap.size,2,O⟩=false:=T.ZX f;have f3:h.frozen? ⟨w.heap.size,3,O⟩=false:=T.ZX f;have Y:=zi (fun a b i d=>And.intro (T.ze7 (a':=a) (b':=b) (c':=i) (d':=d) f) (zhL (w:=h) (g:=w.heap.size) a b i d));have a2:Hid (qU h w.heap.size):=qj f (by intro a9 hu;simp at hu;rcases hu with rfl|rfl|rfl|rfl<;>(intro a3 e;cases e));have C:Hid (∀a b i d,Wr (fun Q=>Q=w.heap.size) h (((((h.setCell ⟨w.heap.size,0,O⟩ a).setCell ⟨w.heap.size,1,O⟩ b).setCell ⟨w.heap.size,2,O⟩ i).setCell ⟨w.heap.size,3,O⟩ d).alloc (cl #[G r,V q u t,V v y x] 103))/\(((((h.setCell ⟨w.heap.size,0,O⟩ a).setCell ⟨w.heap.size,1,O⟩ b).setCell ⟨w.heap.size,2,O⟩ i).setCell ⟨w.heap.size,3,O⟩ d).alloc (cl #[G r,V q u t,V v y x] 103)).heap[w.heap.size]? =E (cl #[a,b,i,d] 454)):=by
  intro a b i d;have F:=Y.out a b i d;exact⟨F.2.trans (Wr.of_below ((Ext.refl _).alloc _)),(zI _ _ _ (zf.1 F.1).1).trans F.1⟩
 clear f Y;have B:Hid (∀W,Wr (fun Q=>Q=w.heap.size) h W->Below w.heap.size w W):=fun W hW=>ZA x3 (hW.below (by have:=x3.size;omega) (fun b hb=>om))
 cases a4 with
 |false=>
  go_wp2_with fail
  obtain⟨j,c⟩:=C.out (V O 0 0) (G false) (V O 0 0) (V O 0 0);have k:=c_ 0 c;have n:=c_ 1 c;have o:=c_ 2 c;have p:=c_ 3 c;refine⟨rfl,tp #[ag #[V O 0 0,G false,V O 0 0,V O 0 0],G false],by simp[results,results372,go_sem,k,n,o,p],⟨(O,0,0),⟨false,(O,0,0),(O,0,0)⟩⟩,rfl,(fun D=>by cases D),B.out _ j⟩
 |true=>
  cases a5 with
  |false=>
   go_wp2_with fail
   obtain⟨j,c⟩:=C.out (V O 0 0) (G false) (V O 0 0) (V O 0 0);have k:=c_ 0 c;have n:=c_ 1 c;have o:=c_ 2 c;have p:=c_ 3 c;refine⟨rfl,tp #[ag #[V O 0 0,G false,V O 0 0,V O 0 0],G false],by simp[results,results372,go_sem,k,n,o,p],⟨⟨(O,0,0),⟨false,(O,0,0),(O,0,0)⟩⟩,rfl⟩,B.out _ j⟩
  |true=>
   go_wp2_with fail
   obtain⟨j,c⟩:=C.out (V S X U) (G r) (V q u t) (V v y x);have k:=c_ 0 c;have n:=c_ 1 c;have o:=c_ 2 c;have p:=c_ 3 c;refine⟨rfl,tp #[ag #[V S X U,G r,V q u t,V v y x],G true],by simp[results,results372,go_sem,k,n,o,p],⟨(S,X,U),⟨r,(q,u,t),(v,y,x)⟩⟩,rfl,?_,B.out _ j⟩;exact zaW.wr ⟨HV.out trivial,HF.out trivial⟩ j (fun b hb=>by rw[hb];exact a2.out)
attribute [local go_sem] qm qW ZR
theorem zla (a:Option Addr)(l c:Nat)(w:H):
 Calls pg 333 #[V a l c] w fun e w'=>e= .returned (.func (.func 371) #[] #[pn (E ⟨w.heap.size,0,O⟩)])/\w'=w.alloc (cl #[V a l c] 44):=by
 go_enter func333,ntmps333
 have a:=JN;go_wp2;go_ret;exact⟨rfl,rfl⟩
def PartY (ts:List ST)(k:Nat)(v:Array Value)(W:H):Prop:=
 ∃(t:ST) (d:DP),ts[k]? =E t/\v=#[d.val,G (T.QG t.s.data.toList)]/\(T.QG t.s.data.toList=true->zaW W d (T.partN t.s.data.toList,T.partP t.s.data.toList,T.partQ t.s.data.toList))
theorem zj9 (ts:List ST)(a:Option Addr)(cap b:Nat)(c:ts.length<=1000000)(e:∀t∈ts,t.s.size<=1000000000):
 J0 pg 371 #[pn (E ⟨b,0,O⟩)] ts.length (PartY ts) (fun W=>W.cell? ⟨b,0,O⟩=E (V a ts.length cap)/\T.Recs W (V a ts.length cap) 1 (ts.map ST.cells)):=by
 intro l J a b W o a a d c;have p:=(a 0 b W c).1.1;have g:=zi a;have n:=zi d;have m:=zi e;clear d a e;refine zcE func371 ntmps371 (h:=?_);gi_wp2;gi_loopw [7] (fun i wr=>∃(k:Nat) (M:Nat->Prop),i=it .i64 (k:Int)/\k<=ts.length/\J k M wr/\W.heap.size<=wr.heap.size) (fun i _=>ts.length-(intOf i).toNat)
 case atStart=>exact⟨0,b,rfl,qp _,c,zh _⟩
 case round=>
  obtain⟨k,M,rfl,_,d,_⟩:=hrel;by_cases a:k<ts.length
  ·have f:=zj a;obtain⟨_,_,rfl,_,j⟩:=(g.out k M wr d).1.2.at (by intro e;rw[ZU]at e;rw[e]at a;simp at a);have l:=j k _ (by rw[zQ,f];rfl);have i:=zi (fun c (g:DP) b hjj=>n.out k #[g.val,G (T.QG (ts[k]).s.data.toList)] M c a ⟨_,g,f,rfl,b⟩ hjj);have g:=zi (fun c=>zjy (ts[k]).s (m.out _ (zZ a)) c);clear j f;generalize ts[k]=t at *;obtain⟨j⟩:=t;have c:=l 0 _ rfl;simp only[qy,Qe]at c;clear l p;gi_wp2;refine(zS.2 (g.out _)).mono ?_;rintro e f ⟨⟨⟨_,_,_⟩,⟨_,⟨_,_,_⟩,⟨_,_,_⟩⟩⟩,rfl,b,e⟩;have c:=zi (i.out f _ b (o _ _ _ _ d (zw.of_below e)));simp only[DP.val,DP.rv,T.Tri.up,T.Tri.down]at c⊢;have f:=e.size;clear b i g;generalize T.QG j.data.toList=ok at *;gi_wp2;refine jt c.out ?_ ?_
   ·rintro e ⟨f,c,b,_⟩;gi_wp2;go_roundw
    case rel=>exact⟨k+1,c,sp,a,b,by have:=f.size;omega⟩
    case measure=>simp[intOf];omega
   ·intro e b;gi_wp2;refine zH (qY rfl _ _ _) rfl ?_;exact⟨⟨_,rfl⟩,.inr ⟨k,a,b.2⟩⟩
  ·gi_wp2;go_end0
   have a:k=ts.length:=om;subst a;exact⟨⟨_,rfl⟩,.inl ⟨M,d⟩⟩
end Go.Proofs.YtnhfdcfnojnofaaGreatDoor
namespace Go.Proofs.YtnhfdcfnojnofaaGreatDoor
open Go.RowKit
theorem zmw {w:H}{a n:Nat}(d:w.heap[a]? =E (cl (madeCells #[G false,V O 0 0,V O 0 0] (n*3)) 103)):Qk w 103 (V (E ⟨a,0,O⟩) n n) 3 ((List.replicate n (⟨false,(O,0,0),(O,0,0)⟩:T.Tri)).map T.Tri.cells):=by
 refine Or.inr ⟨a,0,n,sp,sp,⟨_,_,d⟩,fun i a b j u a=>?_⟩;rw[zQ,Ju]at b;by_cases c:i<n
 ·rw[z8 c]at b;simp only[Zz,z7,T.Tri.cells,T.Tri.up,T.Tri.down]at b;subst b;obtain⟨e,f,g⟩:=T.zmf c;rw[qi];refine(qh _ _ _ _ _ _ d).trans ?_;match j,a with
  |0,a=>exact e.trans (by simpa using a)
  |1,a=>exact f.trans (by simpa using a)
  |2,a=>exact g.trans (by simpa using a)
  |j+3,a=>simp at a
 ·rw[zW c]at b;cases b
theorem zka (n:Nat)(a:n<=100000)(w:H):
 Calls pg 334 #[it .i64 (n:Nat)] w fun e w'=>∃b:BT,e= .returned b.val/\JU w' b (List.replicate n (0,1),(0,1))/\Below w.heap.size w w':=by
 obtain⟨g,a,c,d,f⟩:=qL zjw;have h:∀W:H,(Instr.makeSlice 363 (it .i64 (n:Nat)) (it .i64 (n:Nat))).run pg W= .ok (V (E ⟨W.heap.size,0,O⟩) n n) (W.alloc (cl (madeCells #[G false,V O 0 0,V O 0 0] (n*3)) 103)):=by
  intro W;have:=run_make (P:=pg) W 363 103 g _ underlying363 a c .i64 .i64 (n:Int) (n:Int) om om (by rw[f];omega) om;rw[d,jJ]at this;exact this
 have g:Ext w (w.alloc (cl #[G false,V O 0 0,V O 0 0,V O 0 0] 365)):=(Ext.refl w).alloc _;have g:=zq w (cl #[G false,V O 0 0,V O 0 0,V O 0 0] 365);have g:(w.alloc (cl #[G false,V O 0 0,V O 0 0,V O 0 0] 365)).heap.size=w.heap.size+1:=sp;clear a c d f;go_enter func334,ntmps334
 go_wp2_with fail
 obtain⟨a,h⟩:=T.zbs w (cl #[G false,V O 0 0,V O 0 0,V (E ⟨w.heap.size+1,0,O⟩) n n] 365) (cl (madeCells #[G false,V O 0 0,V O 0 0] (n*3)) 103);have c:=c_ 0 a;have d:=c_ 1 a;have f:=c_ 2 a;have g:=c_ 3 a;refine⟨rfl,ag #[G false,V O 0 0,V O 0 0,V (E ⟨w.heap.size+1,0,O⟩) n n],by simp[results,results334,go_sem,c,d,f,g],⟨⟨false,(O,0,0),(O,0,0)⟩,(E ⟨w.heap.size+1,0,O⟩,n,n)⟩,rfl,⟨⟨List.replicate n ⟨false,(O,0,0),(O,0,0)⟩,sp,zmw h,fun i t q a c=>?_⟩,zih _⟩,((zR _ _).alloc (zh _) _).alloc sp _⟩;rw[Ju]at a c;by_cases d:i<n
 ·rw[z8 d]at a c;have f:=qV a;have g:=qV c;subst f;subst g;exact zih _
 ·rw[zW d]at a;cases a
def zc5 (last:Bool)(x:List UInt8×Bool):Option (List (Nat×Int×Nat)):=
 if x.2=true/\(qg x.1).headD []=(if last=true then [101,110,100]else [99,117,116])/\((qg x.1).drop 1).all T.QG=true then E (((qg x.1).drop 1).map T.Jk)else O
def jM (p:qo)(kind:Int)(z:Int)(row:List Int×Int):Bool:=
 if kind=1 then decide (row=(p.mx,z))else decide (row.1=List.replicate p.n 0)&&decide (row.2<0)
def QR (n:Nat)(goal:List Int×Int->Bool):Nat->List (List Int×Int)->List (List UInt8×Bool)->Nat×Nat
 |_,_,[]=>(5,1)
 |k,rows,x::r=>
  match zc5 r.isEmpty x with
  |none=>(5,k+1)
  |some ps=>match qG rows ps (List.replicate n (0,1),(0,1))with
   |.error e=>(e,k+1)
   |.ok acc=>
    if r.isEmpty=true then(if ((Qa acc).map goal).getD false=true then(0,0)else(12,k+1))
    else match Qa acc with
     |none=>(11,k+1)
     |some row=>QR n goal (k+1) (rows ++ [row]) r
def vOk (l:List UInt8):Bool:=T.okD (Lib.trimPrefix l [45]) 100
def J9 (rows:List (List Int×Int))(x:List Int):Bool:=rows.all fun r=>decide (T.ju r.1 x<=r.2)
def ZH (p:qo)(kind:Int)(pt:List (List UInt8))(v:List UInt8):Except Nat Int:=
 if kind=2 then .ok 0
 else if kind≠1\/vOk v=false\/pt.length≠p.n\/pt.all vOk=false then .error 7
 else if J9 (T.zaV p) (pt.map T.wZ)=true/\T.ju p.mx (pt.map T.wZ)=T.wZ v then .ok (T.wZ v)else .error 8
def zat (s:List UInt8)(kind:Int)(pt:List (List UInt8))(v log:List UInt8):Nat×Nat:=
 match jj s with
 |.error e=>e
 |.ok p=>match ZH p kind pt v with
  |.error e=>(e,0)
  |.ok z=>if 20000<log.length then(4,0)else QR p.n (jM p kind z) 0 (T.zaV p) (qE log)
theorem zop {l:List UInt8}{m:Nat}(h:T.zaP (Lib.trimPrefix l [45]) m=true):Sz (10^m) (10^m) (T.rP l,T.rQ l):=by
 unfold T.zaP at h;simp only[ZQ,Bool.or_eq_true,Bool.not_eq_true',Qw]at h;obtain⟨c,a⟩:=h;have b:T.rA l<10^m:=T.zoh c;have b:0<T.rD l/\T.rD l<=10^m:=by
  unfold T.rD T.zcR;rcases a with a|⟨a,d⟩
  ·rw[a];exact⟨Nat.one_pos,Nat.one_le_pow _ _ om⟩
  ·split
   ·exact⟨Zm d,Z2 (T.zoh a)⟩
   ·exact⟨Nat.one_pos,Nat.one_le_pow _ _ om⟩
 have e:Nat.gcd (T.rA l) (T.rD l) ∣ T.rD l:=ZZ _ _;have g:Nat.gcd (T.rA l) (T.rD l) ∣ T.rA l:=ZY _ _;have f:0<Nat.gcd (T.rA l) (T.rD l):=Qn _ b.1;have d:0<T.rQ l:=zaO (QV b.1 e) f;refine⟨d,?_,zL (Qh _ _) b.2⟩;have e:(T.rP l).natAbs=T.rA l/Nat.gcd (T.rA l) (T.rD l):=by
  unfold T.rP;have b:(Nat.gcd (T.rA l) (T.rD l):Int) ∣ sg (Lib.hasPrefix l [45]) (T.rA l):=Q3.2 (by rw[zbn];exact g);rw[jq b,Zc,zbn]
 show(T.rP l).natAbs<=10^m*T.rQ l
 rw[e];have c:=Qh (T.rA l) (Nat.gcd (T.rA l) (T.rD l));have a:10^m*1<=10^m*T.rQ l:=qK _ d;omega
theorem zeU {l:List UInt8}(h:T.QG l=true):Sz (10^l.length) (10^l.length) (T.Jk l).2:=by
 unfold T.QG at h;rw[ZQ]at h;exact zop h.2
def Jn (ws:List (List UInt8)):Nat:=(ws.map fun l=>l.length+1).sum
theorem zoq (s l:Nat):10^s+10^l<=10^(s+(l+1)):=by
 have a:10^(s+(l+1))=10*(10^s*10^l):=by rw[ZI,ZK];rw[<-ZD,Qg]
 have a:0<10^s:=zac om;have b:0<10^l:=zac om;have c:10^s*1<=10^s*10^l:=qK _ b;have b:1*10^l<=10^s*10^l:=qM _ a;omega
theorem zjz {n R:Nat}{rows:List (List Int×Int)}(j:Jl n R rows):∀(a:List (List UInt8)) (s:Nat) (c b:List (Int×Nat)×(Int×Nat)),(∀l∈a,T.QG l=true)->zcV (R*10^s) (10^s) c->c.1.length=n->qG rows (a.map T.Jk) c= .ok b->zcV (R*10^(s+Jn a)) (10^(s+Jn a)) b/\b.1.length=n
 |[],s,c,b,_,d,e,h=>by
  simp only[jE,qG,Except.ok.injEq]at h;subst h;exact⟨by simpa[Jn]using d,e⟩
 |l::a,s,c,b,i,d,e,h=>by
  rw[ZF,qG]at h;by_cases h1:(T.Jk l).1<1\/rows.length<(T.Jk l).1
  ·rw[z8 h1]at h;cases h
  ·rw[zW h1]at h;by_cases g:(T.Jk l).2.1<=0
   ·rw[z8 g]at h;cases h
   ·rw[zW g]at h;obtain⟨f,k⟩:=znx j (zeU (i l ZS)) h1 d e;have c:s+Jn (l::a)=s+(l.length+1)+Jn a:=by simp[Jn];omega
    rw[c];have d:10^s*10^l.length<=10^(s+(l.length+1)):=by
     rw[<-ZI];exact qz om om
    have c:R*10^s+R*10^l.length<=R*10^(s+(l.length+1)):=by
     rw[<-qI];exact qK _ (zoq _ _)
    refine zjz j a (s+(l.length+1)) _ b (fun x a=>i x (Zu _ a)) ⟨fun a b=>(f.1 a b).mono c d,f.2.mono c d⟩ k h
theorem znQ (n R:Nat):zcV (R*10^0) (10^0) (List.replicate n ((0:Int),1),((0:Int),1)):=
 ⟨fun a a=>by rw[(zdv.1 a).2];exact⟨Nat.one_pos,sp,sp⟩,⟨Nat.one_pos,sp,sp⟩⟩
theorem zgc {n R:Nat}{rows:List (List Int×Int)}(g:Jl n R rows){a:List (List UInt8)}(f:∀l∈a,T.QG l=true){S:Nat}(e:Jn a<=S)(k:Nat)(b:List (Int×Nat)×(Int×Nat))(h:qG rows ((a.map T.Jk).take k) (List.replicate n (0,1),(0,1))= .ok b):zcV (R*10^S) (10^S) b/\b.1.length=n:=by
 rw[<-zdI]at h;obtain⟨c,d⟩:=zjz g (a.take k) 0 _ b (fun l b=>f l (Zv b)) (znQ n R) sp h;have g:0+Jn (a.take k)<=S:=by
  refine zL ?_ e;rw[qi];clear h c d f e;unfold Jn;conv=>rhs;rw[<-Qf k a]
  rw[ZN,zc2];omega
 have b:10^(0+Jn (a.take k))<=10^S:=qz om g;exact⟨⟨fun a e=>(c.1 a e).mono (qK _ b) b,c.2.mono (qK _ b) b⟩,d⟩
theorem zjA {M:Nat}{z:Int}{q:Nat}(a:0<q)(h:z.natAbs<=M*q):(z/(q:Int)).natAbs<=M:=by
 have b:z<=(M*q:Nat):=om;have c:-((M*q:Nat):Int)<=z:=om;have a:(0:Int)<(q:Int):=om;have d:z/(q:Int)<=M:=by
  have:=Int.ediv_le_ediv a b;rw[JW,zc9 _ om]at this;exact this
 have b:-(M:Int)<=z/(q:Int):=by
  have:=Int.ediv_le_ediv a c;rw[JW,<-Int.neg_mul,zc9 _ om]at this;exact this
 omega
theorem zhi {n M D:Nat}{a:List (Int×Nat)×(Int×Nat)}(b:zcV M D a)(d:a.1.length=n){row:List Int×Int}(h:Qa a=E row):row.1.length=n/\(∀z∈row.1,z.natAbs<=M)/\row.2.natAbs<=M:=by
 unfold Qa at h;split at h
 ·rename_i c
  rw[z7]at h;subst h;refine⟨by simp[d],fun z e=>?_,zjA b.2.pos b.2.up⟩;obtain⟨a,d,rfl⟩:=ZC.1 e;have e:=qR.1 c a d;have c:=(b.1 a d).up;rw[QU e,Qe]at c;exact c
 ·cases h
theorem zhj:∀(f:Nat) (l:List UInt8),l.length<f->Jn (Jh f l)=l.length+1
 |0,l,h=>om
 |f+1,l,h=>by
  rw[Jh];have b:=zao 32 l;by_cases a:(Lib.cut l [32]).2.2=true
  ·rw[z8 a]at b⊢;have:=zhj f (Lib.cut l [32]).2.1 om;simp only[Jn,ZF,zbo]at this⊢;omega
  ·rw[zW a]at b⊢;rw[zb0 (c:=32) (l:=l) (by simpa using a)];simp[Jn]
theorem zex (l:List UInt8):Jn ((qg l).drop 1)<=l.length:=by
 have h:=zhj (l.length+1) l om;have a:qg l=Jh (l.length+1) l:=rfl;rw[a];cases hx:Jh (l.length+1) l with
 |nil=>simp[Jn]
 |cons a r=>
  rw[hx]at h;simp only[Jn,ZF,zbo,List.drop_succ_cons,Zd]at h⊢;omega
theorem zhk:∀(f:Nat) (l:List UInt8),((jR f l).map fun x=>x.1.length).sum<=l.length
 |0,l=>by simp[jR]
 |f+1,l=>by
  rw[jR];split
  ·simp
  ·have a:=zao 10 l;have:=zhk f (Lib.cut l [10]).2.1;simp only[ZF,zbo];omega
theorem zij (l:List UInt8):((qE l).map fun x=>x.1.length).sum<=l.length:=zhk _ l
theorem zeV {L:Nat}{p:qo}(e:ji L p)(a:2+p.n<=L):Jl p.n (10^40) (T.zaV p):=by
 have h:p.rg.length=p.n:=by have:=e.g;omega
 intro r a;unfold T.zaV at a;rcases Zs.1 a with a|a
 ·obtain⟨x,b,a⟩:=List.mem_flatMap.1 a;obtain⟨f,_⟩:=e.c x b;obtain⟨c,d⟩:=e.br x b;unfold T.jK at a;rcases Zs.1 a with a|a
  ·split at a
   ·simp at a
   ·rw[Qo.1 a];exact⟨f,fun z b=>Z2 (c z b),Z2 d⟩
  ·split at a
   ·simp at a
   ·rw[Qo.1 a];refine⟨by simp[f],fun z b=>?_,by rw[QX];exact Z2 d⟩;obtain⟨y,f,rfl⟩:=ZC.1 b;rw[QX];exact Z2 (c y f)
 ·obtain⟨i,j,a⟩:=List.mem_flatMap.1 a;have g:i<p.rg.length:=by rw[h];exact zdj.1 j
  have h:p.rg.getD i (0,0)∈p.rg:=by
   rw[zk,zj g];exact zZ g
  obtain⟨c,d⟩:=e.bg _ h;have e:∀z∈T.zai p.n i,z.natAbs<=10^40:=by
   intro z b;unfold T.zai at b;obtain⟨_,_,rfl⟩:=ZC.1 b;split
   ·show(1:Int).natAbs<=10^40
    decide
   ·show(0:Int).natAbs<=10^40
    decide
  have g:(T.zai p.n i).length=p.n:=by simp[T.zai]
  unfold T.zaM at a;rcases qw.1 a with rfl|a
  ·exact⟨g,e,Z2 d⟩
  ·rw[Qo.1 a];refine⟨by simp[g],fun z b=>?_,by rw[QX];exact Z2 c⟩;obtain⟨y,f,rfl⟩:=ZC.1 b;rw[QX];exact e y f
attribute [local go_sem] qm qW ZR
structure DL where
 n:Int
 e:Bool
 p:Option Addr×Nat×Nat
def DL.pv (d:DL):Value:=V d.p.1 d.p.2.1 d.p.2.2
def DL.val (d:DL):Value:=ag #[it .i64 d.n,G d.e,d.pv]
def JZ (w:H)(v:Value)(ps:List (Nat×Int×Nat)):Prop:=
 ∃ds:List DP,ds.length=ps.length/\Qk w 454 v 4 (ds.map DP.cells)/\∀(i:Nat) (d:DP) (x:Nat×Int×Nat),ds[i]? =E d->ps[i]? =E x->zaW w d x
theorem JZ.keep {B:Nat}{w w':H}{v:Value}{b:List (Nat×Int×Nat)}(h:JZ w v b)(a:zw B w w'):JZ w' v b:=by
 obtain⟨e,b,c,d⟩:=h;exact⟨e,b,c.keep a,fun i t z b c=>(d i t z b c).keep a⟩
theorem JZ.ext {w w':H}{v:Value}{a:List (Nat×Int×Nat)}(h:JZ w v a)(b:Ext w w'):JZ w' v a:=h.keep (B:=0) (zw.of_below b)
theorem JZ.wr {U:Nat->Prop}{w w':H}{v:Value}{a:List (Nat×Int×Nat)}(h:JZ w v a)(c:Wr U w w')(b:∀k,U k->¬QI w k 454/\qU w k):JZ w' v a:=by
 obtain⟨f,a,d,e⟩:=h;exact⟨f,a,d.wr c (fun k a=>(b k a).1),fun i t z d f=>(e i t z d f).wr c (fun k a=>(b k a).2)⟩
def zeh (last:Bool):List UInt8:=if last=true then [101,110,100]else [99,117,116]
theorem zfq (last:Bool)(w:H):Calls pg 332 #[G last] w fun e w'=>e= .returned (gS ⟨(zeh last).toArray⟩)/\w'=w:=by
 cases last<;>
 ·go_enter func332,ntmps332
  go_wp2;go_ret;exact⟨rfl,rfl⟩
theorem infoPart:(Tryz.prog.info? 454).map (fun i=>(i.zero,i.size,i.bytes))=E (E (ag #[V O 0 0,G false,V O 0 0,V O 0 0]),4,80):=kr
theorem words_list (s:List UInt8)(hs:s.length<=90000)(d:H):
 Calls pg 330 #[.func (.func 370) #[] #[pn (E ⟨d.heap.size,0,O⟩)]] (d.alloc (cl #[gS ⟨s.toArray⟩] 9)) fun e w'=>∃(g f cap:Nat) (c:List UInt8) (ts:List ST),e= .returned (V (E ⟨g,f,O⟩) (ts.length+1) cap)/\qg s=c::ts.map (fun t=>t.s.data.toList)/\ts.length+1<=cap/\Qk w' 9 (V (E ⟨g,f,O⟩) (ts.length+1) cap) 1 ([gS ⟨c.toArray⟩]::ts.map ST.cells)/\Below (d.alloc (cl #[gS ⟨s.toArray⟩] 9)).heap.size (d.alloc (cl #[gS ⟨s.toArray⟩] 9)) w':=by
 have h:=(zcJ (s.length+1) s).1;have a:=(zh8 s om d.heap.size).seq;have b:((qg s).map zeu).length=((qg s).map fun l=>(⟨l.toArray⟩:ByteArray)).length:=sp;rw[b]at a;refine(zjs _ _ _ _ _ a (ZJ func370 kr rfl) (fun k v W x b a=>?_) (fun k v W a=>?_) (by rw[zo];exact zL h om) _ (c_ 0 (zq d _)) (fun A B d i=>?_)).mono ?_
 ·rw[zQ]at a b;cases h:(qg s)[k]? with
  |none=>rw[h]at b;cases b
  |some y=>
   rw[h]at b a;simp only[Zz,z7]at b a;exact⟨⟨⟨y.toArray⟩⟩,a.symm,b⟩
 ·rw[zQ]at a;cases h:(qg s)[k]? with
  |none=>rw[h]at a;cases a
  |some y=>
   rw[h]at a;simp only[Zz,z7]at a;rw[<-a];rfl
 ·exact zbg sp A B d i
 ·rintro e w' ⟨v,ts,rfl,b,a,j,_,k⟩;have m:ts=(qg s).map fun l=>(⟨⟨l.toArray⟩⟩:ST):=by
   apply List.ext_getElem?;intro i;rw[zQ];rw[zo]at b;cases h:(qg s)[i]? with
   |none=>
    rw[List.getElem?_eq_none_iff]at h;rw[Option.map_none,List.getElem?_eq_none_iff];omega
   |some y=>
    have d:i<ts.length:=by rw[b];exact(zn.1 h).1
    have b:=j i ts[i] ⟨y.toArray⟩ (zj d) (by rw[zQ,h];rfl);rw[zj d,Zz,z7];rw[<-b]
  subst m;have b:qg s=(Lib.cut s [32]).1::(if (Lib.cut s [32]).2.2=true then Jh s.length (Lib.cut s [32]).2.1 else []):=rfl;generalize (Lib.cut s [32]).1=c at b;generalize (if (Lib.cut s [32]).2.2=true then Jh s.length (Lib.cut s [32]).2.1 else [])=r at b;rw[b,ZF,ZF]at a;have d:=a;rcases d with ⟨_,h⟩|⟨g,f,cap,rfl,d,-⟩
  ·cases h
  ·simp only[zo,Zo]at a d;refine⟨g,f,cap,c,r.map (fun l=>(⟨⟨l.toArray⟩⟩:ST)),sp,?_,by rw[zo];exact d,by rw[zo];exact a,k⟩;rw[b,ZV];congr 1
   rw[show((fun t:ST=>t.s.data.toList) ∘ fun l:List UInt8=>(⟨⟨l.toArray⟩⟩:ST))=id from funext fun l=>sp,List.map_id]
def jx (l:List UInt8):Nat×Int×Nat:=(T.partN l,T.partP l,T.partQ l)
def Je (last:Bool)(x:List UInt8×Bool):Bool:=x.2&&(decide ((qg x.1).headD []=zeh last)&&((qg x.1).drop 1).all T.QG)
theorem znR (last:Bool)(x:List UInt8×Bool):zc5 last x=if Je last x=true then E (((qg x.1).drop 1).map T.Jk)else O:=by
 unfold zc5 Je zeh;by_cases h:x.2=true/\(qg x.1).headD []=(if last=true then [101,110,100]else [99,117,116])/\((qg x.1).drop 1).all T.QG=true
 ·rw[z8 h,z8];rw[h.1,qH h.2.1,h.2.2];rfl
 ·rw[zW h,zW];intro e;simp only[ZQ,Qw]at e;exact h e
def LrI (w1:H)(g5 r2 r3 n:Nat)(z:Int)(last:Bool)(q:Nat->List UInt8)(k:Nat)(M:Nat->Prop)(A:H):Prop:=
 Wr (fun b=>b=g5) w1 A/\k<=n/\(∀i,i<k->T.QG (q i)=true)/\(∃(v:Value) (ds:List DP) (fr:Nat×Nat),ds.length=k/\A.heap[g5]? =E (cl #[it .i64 z,G last,v] 259 fr)/\A.frozen? ⟨g5,2,O⟩=false/\Grw w1.heap.size 454 4 A v (ds.map DP.cells)/\(∀(i:Nat) (d:DP),ds[i]? =E d->zaW A d (jx (q i)))/\∀b,M b↔b=g5\/v.ownBlock=E b\/b=r2\/b=r3)
theorem LrI.keep {d A B:H}{c e f n:Nat}{z:Int}{last:Bool}{q:Nat->List UInt8}{k:Nat}{M:Nat->Prop}(h:LrI d c e f n z last q k M A)(b:zw d.heap.size A B):LrI d c e f n z last q k M B:=by
 obtain⟨i,j,g,v,s,f,l,d,m,o,p,r⟩:=h;have e:=b.block _ _ d (.inr rfl);exact⟨i.keep b,j,g,v,s,f,l,e,(zt (w:=A) (a:=⟨c,2,O⟩) (e.trans d.symm)).trans m,o.keep b,fun i u c=>(p i u c).keep b,r⟩
def LrX (w:H)(r2 r3:Nat)(z:Int)(q:Nat->List UInt8)(c:Code)(k:Nat)(A:H):Prop:=c= .ret/\T.QG (q k)=false/\Below w.heap.size w A/\A.cell? ⟨r2,0,O⟩=E (it .i64 z)/\A.cell? ⟨r2,1,O⟩=E (G false)/\A.cell? ⟨r2,2,O⟩=E (V O 0 0)/\A.cell? ⟨r3,0,O⟩=E (G false)
theorem LrX.keep {w A B:H}{b d C:Nat}{z:Int}{q:Nat->List UInt8}{c:Code}{k:Nat}(h:LrX w b d z q c k A)(a:zw C A B)(l:w.heap.size<=C):LrX w b d z q c k B:=by
 obtain⟨b,d,e,f,g,i,j⟩:=h;exact⟨b,d,a.below e l (zh _),a.cell f,a.cell g,a.cell i,a.cell j⟩
theorem Qk.tail {w:H}{t:TypeId}{g a n cap:Nat}{cs:List Value}{b:List (List Value)}(c:n=b.length)(h:Qk w t (V (E ⟨g,a,O⟩) (n+1) cap) 1 (cs::b)):(cap=1->Qk w t (V (E ⟨g,a,O⟩) n 0) 1 b)/\(¬cap=1->Qk w t (V (E ⟨g,a+1,O⟩) n (cap-1)) 1 b):=by
 subst c;rcases h with ⟨h,_⟩|⟨_,_,_,b,c,d,f⟩
 ·cases h
 ·simp only[zV,z7,je]at b;obtain⟨⟨rfl,rfl,_⟩,_,rfl⟩:=b;rw[Zo]at c;refine⟨fun e=> .inr ⟨g,a,0,rfl,om,d,fun i c b=>?_⟩,fun e=> .inr ⟨g,a+1,cap-1,rfl,om,d,fun i c b j u d=>?_⟩⟩
  ·have:=(zn.1 b).1;omega
  ·have:=f (i+1) c (by simpa using b) j u d;rw[show a+1+i*1+j=a+(i+1)*1+j by omega];exact this
end Go.Proofs.YtnhfdcfnojnofaaGreatDoor
namespace Go.Proofs.YtnhfdcfnojnofaaGreatDoor.T
open Go.RowKit
def rOkH (l:List UInt8):Bool:=zaP (Lib.trimPrefix l [45]) 100
def wOkH (l:List UInt8):Bool:=decide (∀c∈l,c≠47)&&rOkH l
theorem zjB {l:List UInt8}(h:∀c∈l,c≠47):rP l=wZ l/\rQ l=1/\rA l=qd (Lib.trimPrefix l [45])/\rOkH l=okD (Lib.trimPrefix l [45]) 100:=by
 obtain⟨b,d,e,_⟩:=zhA h;have a:=zgD _ (fun c a=>h c (zja a));refine⟨b,d,e,?_⟩;unfold rOkH zaP;rw[a];simp
theorem zjC (l:List UInt8):wOkH l=vOk l:=by
 unfold vOk;by_cases h:∀c∈l,c≠47
 ·unfold wOkH;rw[(zjB h).2.2.2,qH h,ZE]
 ·have a:wOkH l=false:=by unfold wOkH;rw[ZB h,zag]
  rw[a];cases hd:okD (Lib.trimPrefix l [45]) 100 with
  |false=>rfl
  |true=>
   exfalso
   apply h;intro c a e;exact zhb hd c (zjq a (by rw[e];decide)) e
theorem znS (s:ByteArray)(w:H)(hs:s.size<=9223372036854775807):
 Calls pg 102 #[gS s,it .i64 100] w fun e w'=>∃b a l cap c f d,e= .returned (tp #[ag #[G b,V a l cap,V c f d],G (rOkH s.data.toList)])/\
  (rOkH s.data.toList=true->qe w' (ag #[G b,V a l cap,V c f d]) (rP s.data.toList) (rQ s.data.toList))/\Below w.heap.size w w':=
 read_any s 100 w hs om
theorem zdK (s:ByteArray)(w:H)(hs:s.size<=9223372036854775807):
 Calls pg 191 #[gS s,it .i64 100] w fun e w'=>∃b a l cap c j d,e= .returned (tp #[ag #[G b,V a l cap,V c j d],G (wOkH s.data.toList)])/\
  (wOkH s.data.toList=true->qe w' (ag #[G b,V a l cap,V c j d]) (wZ s.data.toList) 1)/\Below w.heap.size w w':=by
 have u:qk (w.alloc (cl #[G false,V O 0 0,V O 0 0] 118)) w.heap.size (G false) (V O 0 0) (V O 0 0):=qk.new _ _ _ _ _;have f:Below w.heap.size w (w.alloc (cl #[G false,V O 0 0,V O 0 0] 118)):=(zR _ _).alloc (zh _) _;have n:=zi (fun W=>znS s W hs);obtain⟨L,hL⟩:∃L,s.data.toList=L:=⟨_,rfl⟩;have g:L.length=s.size:=by rw[<-hL];exact qN s
 have m:Hid (∀(I:Nat) (h:I<s.size),s[I]=L[I]' om):=by
  rw[Hid];intro I h;subst hL;rfl
 rw[hL]at n⊢;clear hL;generalize g:w.alloc (cl #[G false,V O 0 0,V O 0 0] 118)=i at *;go_enter func191,ntmps191
 go_wp2;clear g;go_loop [6] (fun v=>∃k:Nat,k<=s.size/\v=it .i64 (k:Nat)/\Hid (∀i (h:i<k) (t:i<L.length),L[i]≠47)) (fun v=>((s.size:Int)-intOf v).toNat)
 case atStart=>exact⟨0,om,rfl,by rw[Hid];intro i h;omega⟩
 case round=>
  obtain⟨k,_,rfl,g⟩:=hrel;by_cases p:k<s.size
  ·have o:(k:Int)<(s.size:Int):=om;have o:=m.out k p;by_cases v:(s[k].toNat:Int)=47
   ·have m:Hid (wOkH L=false):=by
     have p:L[k]' om=47:=by
      rw[<-o];exact JY (show s[k].toNat=47 by omega)
     rw[Hid,wOkH,ZB (fun h=>h _ (zZ om) p),zag]
    obtain⟨p,q,r,x,y,z,A⟩:=u;clear o g n;go_wp2;exact zH (v:=tp #[ag #[G false,V O 0 0,V O 0 0],G false]) (by simp[results,results191,go_sem,p,q,r]) rfl (by first|exact⟨false,O,0,0,O,0,0,by rw[m.out],fun h=>absurd (m.out.symm.trans h) dc,Z9 f (zh _) _ _ _⟩|exact Or.inl ⟨O,0,0,O,0,0,by rw[m.out],fun h=>absurd (m.out.symm.trans h) dc,Z9 f (zh _) _ _ _⟩)
   ·have m:Hid (∀i (h:i<k+1) (t:i<L.length),L[i]≠47):=by
     rw[Hid];intro i h t;by_cases B:i=k
     ·subst B;rw[<-o];intro e;rw[e]at v;exact v rfl
     ·exact g.out i om t
    clear o g n;go_wp2;go_round
    case rel=>exact⟨k+1,om,by go_num,m⟩
    case measure=>simp[intOf];omega
  ·obtain rfl:k=s.size:=om;have k:∀m∈L,m≠47:=by
    intro m m;obtain⟨i,o,rfl⟩:=QS m;exact g.out i om o
   obtain⟨m,o,_,_⟩:=zjB k;have i:Hid (rOkH L=wOkH L):=by rw[Hid,wOkH,qH k,ZE]
   have t:=zi m;have v:=zi o;clear g m o k;go_wp2_with fail
   refine(n.out _).mono ?_;rintro e g ⟨b,a,l,cap,c,j,d,rfl,k,g⟩;rw[t.out,v.out,i.out]at k;rw[i.out];have i:=u.below g;have m:=f.trans (g.mono f.size);have n:=i;obtain⟨p,q,r,x,y,z,A⟩:=n;clear g u f;go_wp2;exact zH (v:=tp #[ag #[G b,V a l cap,V c j d],G (wOkH L)]) (by simp[results,results191,go_sem,p,q,r]) rfl ⟨b,a,l,cap,c,j,d,rfl,fun h=>(k h).stored i,Z9 m (zh _) _ _ _⟩
end Go.Proofs.YtnhfdcfnojnofaaGreatDoor.T
