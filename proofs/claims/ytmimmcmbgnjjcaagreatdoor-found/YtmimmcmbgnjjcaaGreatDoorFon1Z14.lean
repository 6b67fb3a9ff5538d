import Derived.Test.YtmimmcmbgnjjcaaGreatDoorFon1Z13
open Option renaming none->O,some->E
open Go.Value renaming slice->V,bool->G,string->gS,pointer->pn,int->it,agg->ag
open Go.Obj renaming cells->cl
open Go renaming World->H
open Go.Proofs.Tryz renaming prog->pg
open Go.Proofs.Tryz
open Go.Ending renaming returned->Xa
open Go.IntKind renaming i64->Xb
open Go.Addr renaming mk->Xd
set_option linter.unusedSimpArgs false
set_option linter.unusedVariables false
set_option maxHeartbeats 2000000
set_option maxRecDepth 100000
namespace Go.Proofs.YtmimmcmbgnjjcaaGreatDoor
section
open Go.RowKit
def za6:List Int->List Int->List Int->Bool
 |m::ms,x::xs,y::ys=>if x=y then za6 ms xs ys else(decide (y<x) == decide (0<m))
 |_,_,_=>false
theorem zf8:∀{c xs ys:List Int},(∀(j:Nat) (x y:Int),xs[j]? =E x->ys[j]? =E y->x=y)->za6 c xs ys=false
 |[],_,_,_=>by simp[za6]
 |_::_,[],_,_=>by simp[za6]
 |_::_,_::_,[],_=>by simp[za6]
 |m::c,x::xs,y::ys,h=>by
  rw[za6,zQ (h 0 x y rfl rfl)];exact zf8 (fun j a b d hb=>h (j+1) a b (by simpa using d) (by simpa using hb))
theorem zfS:∀{e xs ys:List Int} {i:Nat} {m x y:Int},(∀(j:Nat) (x y:Int),j<i->xs[j]? =E x->ys[j]? =E y->x=y)->e[i]? =E m->xs[i]? =E x->ys[i]? =E y->x≠y->za6 e xs ys=(decide (y<x) == decide (0<m))
 |[],_,_,_,_,_,_,_,h,_,_,_=>by simp at h
 |_::_,[],_,_,_,_,_,_,_,h,_,_=>by simp at h
 |_::_,_::_,[],_,_,_,_,_,_,_,h,_=>by simp at h
 |a::e,b::xs,c::ys,0,m,x,y,_,h1,h2,d,f=>by
  simp at h1 h2 d;subst h1 h2 d;rw[za6,zO f]
 |a::e,b::xs,c::ys,i+1,m,x,y,h,h1,h2,d,f=>by
  rw[za6,zQ (h 0 b c om rfl rfl)];exact zfS (i:=i) (fun j p q l g k=>h (j+1) p q om (by simpa using g) (by simpa using k)) (by simpa using h1) (by simpa using h2) (by simpa using d) f
theorem zk8 (w:H)(vM vL vH vG vS vR u v:Value)(mx xs ys:List Int)(hM:Jf w vM mx)(hu:Jf w u xs)(hv:Jf w v ys)(hl:xs.length=mx.length)(hl':ys.length=mx.length)(hn:mx.length<=4):
 Calls pg 32 #[ag #[vM,vL,vH,vG,vS,vR],u,v] w fun e w'=>e=Xa (G (za6 mx xs ys))/\Below w.heap.size w w':=by
 obtain⟨n0,x0⟩:=new1 w (cl #[vM,vL,vH,vG,vS,vR] 25);obtain⟨mo,mp,rfl,hm⟩:=hM;obtain⟨ao,cap,rfl,hr⟩:=hu;obtain⟨bo,cbp,rfl,hs⟩:=hv;have HL:=zf (Xc hl hl');rw[hl]at hr⊢;rw[hl']at hs⊢;have HMX:=zf hm;have HR:=zf hr;have HS:=zf hs;go_enter Tryz.func32,Tryz.ntmps32
 go_wp2;generalize World.alloc _ _=w0 at *;go_loopw [7] (fun iv wr=>∃(i:Nat),i<=mx.length/\iv=it Xb (i:Nat)/\Hid (∀(j:Nat) (x y:Int),j<i->xs[j]? =E x->ys[j]? =E y->x=y)/\Ext w0 wr) (fun iv _=>((mx.length:Int)-intOf iv).toNat)
 case atStart=>exact⟨0,by omega,rfl,fun j x y hj=>by omega,Xe _⟩
 case round=>
  obtain⟨i,hil,rfl,HQ,xr⟩:=hrel;by_cases hin:i<mx.length
  ·obtain⟨hL1,hL2⟩:=HL.out;obtain⟨gm,om,rfl,hgm,hcm⟩:=HMX.out (by omega);obtain⟨g,off,rfl,hg,hcell⟩:=HR.out (by omega);obtain⟨g',off',rfl,hg',hcell'⟩:=HS.out (by omega);have hmi:=zg hin;have hxi:=zg (show i<xs.length by omega);have hyi:=zg (show i<ys.length by omega);have cm:=(x0.trans xr).cell (hcm i _ hmi);have c0:=(x0.trans xr).cell (hcell i _ hxi);have c1:=(x0.trans xr).cell (hcell' i _ hyi);have cb:=xr.cell (ze _ _ 0 _ _ _ n0);have HA:=zf (zfS (fun j x y=>HQ.out j x y) hmi hxi hyi);have HXY:=zf (Xc hxi hyi);generalize mx[i]=m at *;generalize xs[i]=x at *;generalize ys[i]=y at *;go_wp2;refine ZO (S:=fun W=>W.cell? ⟨g,off+i,O⟩=E (it Xb x)/\W.cell? ⟨g',off'+i,O⟩=E (it Xb y)) (by kernel_rfl) ⟨c0,c1⟩ (fun hHeld=>?_);by_cases hxy:x=y
   ·refine tkv 0 ?_;refine tkv 1 ?_;refine tkv 2 ?_;refine tkv 3 ?_;refine tkv 4 ?_;refine tkv 5 ?_;refine tkv 6 ?_;refine tkv 7 ?_;refine tkv 8 ?_;refine zV (by kernel_rfl) ?_ _;go_wp2;go_roundw
    case rel=>
     refine⟨i+1,by omega,by go_num,fun j a b hj ha hb=>?_,xr.drew⟩;by_cases hji:j<i
     ·exact HQ.out j a b hji ha hb
     ·obtain rfl:j=i:=by omega
      rw[HXY.out.1]at ha;rw[HXY.out.2]at hb;cases ha;cases hb;exact hxy
    case measure=>simp[intOf];omega
   ·refine tkv 0 ?_;refine tkv 1 ?_;refine tkv 2 ?_;refine tkv 3 ?_;refine tkv 4 ?_;refine tkv 5 ?_;refine tkv 6 ?_;refine tkv 7 ?_;refine tkv 8 ?_;refine zV (by kernel_rfl) ?_ _;go_wp2;refine ZO (S:=fun W=>W.cell? ⟨g,off+i,O⟩=E (it Xb x)/\W.cell? ⟨g',off'+i,O⟩=E (it Xb y)/\W.cell? (Xd w.heap.size 0 O)=E (V (E (Xd gm om O)) mx.length mp)/\W.cell? ⟨gm,om+i,O⟩=E (it Xb m)) (by kernel_rfl) ⟨c0,c1,cb,cm⟩ (fun hHeld=>?_);have HA2:=zf (HA.out hxy);refine tkv 0 ?_;refine tkv 1 ?_;refine tkv 2 ?_;refine tkv 3 ?_;refine tkv 4 ?_;refine tkv 5 ?_;refine tkv 6 ?_;refine tkv 7 ?_;refine tkv 8 ?_;refine tkv 9 ?_;refine tkv 10 ?_;refine tkv 11 ?_;refine tkv 12 ?_;refine tkv 13 ?_;refine tkv 14 ?_;refine tkv 15 ?_;refine tkv 16 ?_;refine zV (by kernel_rfl) ?_ _;go_wp2;go_ret;exact⟨by rw[HA2.out];rfl,(x0.trans xr).drew.drew⟩
  ·obtain rfl:i=mx.length:=by omega
   have HF:Hid (za6 mx xs ys=false):=zf8 (fun j x y hx hy=>HQ.out j x y (by have:=(zo.1 hx).1;have:=HL.out.1;omega) hx hy);go_wp2;go_ret;exact⟨by rw[HF.out];rfl,x0.trans xr⟩
theorem ba_ne {x y:ByteArray}(h:x≠y):(x.toList == y.toList)=false:=by
 rw[zck,zck];cases hb:(x.data.toList == y.data.toList)with
 |false=>rfl
 |true=>
  refine absurd ?_ h;obtain⟨⟨a⟩⟩:=x;obtain⟨⟨b⟩⟩:=y;have e:a=b:=by simpa using hb
  rw[e]
def zeX (w:H)(v:Value)(zs:List ByteArray):Prop:=
 ∃ao cap,v=V ao zs.length cap/\(0<zs.length->∃g off,ao=E (Xd g off O)/\g<w.heap.size/\∀(i:Nat) (z:ByteArray),zs[i]? =E z->w.cell? ⟨g,off+i,O⟩=E (gS z))
theorem zl2 (w:H)(u v:Value)(xs ys:List ByteArray)(U:zeX w u xs)(X:zeX w v ys)(hn:xs.length<=1000)(a2:ys.length<=1000):
 Calls pg 22 #[u,v] w fun e w'=>e=Xa (G (decide (xs=ys)))/\Below w.heap.size w w':=by
 obtain⟨_,_,rfl,R⟩:=U;obtain⟨_,_,rfl,T⟩:=X;have B:=zf R;have r:=zf T;by_cases m:xs.length=ys.length
 ·have f:=zf m;rw[<-m]at r⊢;go_enter func22,ntmps22
  go_wp2;go_loopw [5] (fun p wr=>∃(i:Nat),i<=xs.length/\p=it Xb (i:Nat)/\Hid (∀(j:Nat) (x y:ByteArray),j<i->xs[j]? =E x->ys[j]? =E y->x=y)/\Ext w wr) (fun p _=>((xs.length:Int)-intOf p).toNat)
  case atStart=>exact⟨0,om,rfl,fun j x y d=>om,Xe _⟩
  case round=>
   obtain⟨i,_,rfl,q,b⟩:=hrel;by_cases N:i<xs.length
   ·have a0:=f.out;obtain⟨J,off,rfl,_,L⟩:=B.out om;obtain⟨K,Y,rfl,_,M⟩:=r.out om;have t:=zg N;have z:=zg (show i<ys.length by omega);have F:=b.cell (L i _ t);have I:=b.cell (M i _ z);have c:=zf (Xc t z);generalize xs[i]=x at *;generalize ys[i]=y at *;go_wp2;refine ZO (S:=fun W=>W.cell? ⟨J,off+i,O⟩=E (gS x)/\W.cell? ⟨K,Y+i,O⟩=E (gS y)) kr ⟨F,I⟩ (fun Z=>?_);by_cases o:x=y
    ·refine tkv 0 ?_;refine tkv 1 ?_;refine tkv 2 ?_;refine tkv 3 ?_;refine tkv 4 ?_;refine tkv 5 ?_;refine tkv 6 ?_;refine tkv 7 ?_;refine tkv 8 ?_;refine zV kr ?_ _;go_wp2;go_roundw
     case rel=>
      refine⟨i+1,om,by go_num,fun j C D d k l=>?_,b.drew⟩;by_cases Q:j<i
      ·exact q.out j C D Q k l
      ·obtain rfl:j=i:=om;rw[c.out.1]at k;rw[c.out.2]at l;cases k;cases l;exact o
     case measure=>simp[intOf];omega
    ·have g:Hid (decide (xs=ys)=false):=by
      refine J2 (fun e=>o ?_);have a:=c.out.1;rw[e,c.out.2]at a;exact(Q8 a).symm
     have a3:=ba_ne o;refine tkv 0 ?_;refine tkv 1 ?_;refine tkv 2 ?_;refine tkv 3 ?_;refine tkv 4 ?_;refine tkv 5 ?_;refine tkv 6 ?_;refine tkv 7 ?_;refine tkv 8 ?_;refine zV kr ?_ _;go_wp2;go_ret;exact⟨by rw[g.out];rfl,b.drew⟩
   ·obtain rfl:i=xs.length:=om;have A:Hid (decide (xs=ys)=true):=by
     refine zbA (zbn fun j=>?_);by_cases d:j<xs.length
     ·have P:j<ys.length:=by have:=f.out;omega
      have a:=zg d;have s:=zg P;rw[a,s,q.out j _ _ d a s]
     ·rw[qL om,qL (by have:=f.out;omega)]
    go_wp2;go_ret;exact⟨by rw[A.out];rfl,b⟩
 ·have g:Hid (decide (xs=ys)=false):=J2 (fun e=>m (by rw[e]));have a1:¬(xs.length:Int)=(ys.length:Int):=om;go_enter func22,ntmps22
  go_wp2;go_ret;exact⟨by rw[g.out];rfl,qf _ _⟩
attribute [local go_sem] zD zW qJ
theorem zrU (a:Option Addr)(n cap:Nat)(b:Option Addr)(m c:Nat)(w:H):
 Calls pg 56 #[ag #[V a n cap,V b m c]] w fun e w'=>e=Xa (.func (.func 104) #[] #[pn (E (Xd w.heap.size 0 O))])/\w'=w.alloc (cl #[V a n cap,V b m c] 71):=by
 go_enter func56,ntmps56
 have a:=jR;go_wp2;go_ret;exact⟨rfl,rfl⟩
end

section
open Go.ChangeShapes Go.WideShapes Go.ChangeAt Go.RowKit
def jf0 (P:Program)(f:FuncId)(fn:Func)(s:ChangeSpec)(c:OpenClaim):Bool:=c.wf (OpenSpec.ofChange s)
def jf1 (P:Program)(f:FuncId)(fn:Func)(s:ChangeSpec)(c:OpenClaim):Bool:=laidOutB P
def jf2 (P:Program)(f:FuncId)(fn:Func)(s:ChangeSpec)(c:OpenClaim):Bool:=mapsRowed P
def jf3 (P:Program)(f:FuncId)(fn:Func)(s:ChangeSpec)(c:OpenClaim):Bool:=fn.params.all (P.readableRec ·)
def jf4 (P:Program)(f:FuncId)(fn:Func)(s:ChangeSpec)(c:OpenClaim):Bool:=namedTie P c.named s.vars
def jf5 (P:Program)(f:FuncId)(fn:Func)(s:ChangeSpec)(c:OpenClaim):Bool:=(c.stops == [])
def jf6 (P:Program)(f:FuncId)(fn:Func)(s:ChangeSpec)(c:OpenClaim):Bool:=(P.stops == [])
def jf7 (P:Program)(f:FuncId)(fn:Func)(s:ChangeSpec)(c:OpenClaim):Bool:=(c.knobs == [])
def jf8 (P:Program)(f:FuncId)(fn:Func)(s:ChangeSpec)(c:OpenClaim):Bool:=(P.stopKnobs == [])
def jf9 (P:Program)(f:FuncId)(fn:Func)(s:ChangeSpec)(c:OpenClaim):Bool:=(c.inPlace == P.inPlace f)
def jf10 (P:Program)(f:FuncId)(fn:Func)(s:ChangeSpec)(c:OpenClaim):Bool:=(c.unfollowed == P.unfollowed f)
def jf11 (P:Program)(f:FuncId)(fn:Func)(s:ChangeSpec)(c:OpenClaim):Bool:=(c.recurses == P.recurses f)
def jf12 (P:Program)(f:FuncId)(fn:Func)(s:ChangeSpec)(c:OpenClaim):Bool:=(c.named == P.varsNamed f)
def jf13 (P:Program)(f:FuncId)(fn:Func)(s:ChangeSpec)(c:OpenClaim):Bool:=(c.maps == (fn.params.toList++s.plain.varTypes P).any (P.mapsRec ·))
def jf14 (P:Program)(f:FuncId)(fn:Func)(s:ChangeSpec)(c:OpenClaim):Bool:=(c.ifaces == (fn.params.toList++s.plain.varTypes P).any (P.ifacesRec ·))
def jf15 (P:Program)(f:FuncId)(fn:Func)(s:ChangeSpec)(c:OpenClaim):Bool:=(c.mapsOut == P.mapsAmong fn.resultTypes.toList)
def jf16 (P:Program)(f:FuncId)(fn:Func)(s:ChangeSpec)(c:OpenClaim):Bool:=(c.loops == (fn.params.toList++s.plain.varTypes P).any (P.loopsFrom ·))
def jf17 (P:Program)(f:FuncId)(fn:Func)(s:ChangeSpec)(c:OpenClaim):Bool:=(c.wideKeys == (fn.params.toList++s.plain.varTypes P++fn.resultTypes.toList).any (P.wideKeysFrom ·))
def jf18 (P:Program)(f:FuncId)(fn:Func)(s:ChangeSpec)(c:OpenClaim):Bool:=s.vars.all (P.varReadable ·)
def jf19 (P:Program)(f:FuncId)(fn:Func)(s:ChangeSpec)(c:OpenClaim):Bool:=fn.resultTypes.all (fun t=>P.readableRec t&&decide (t<P.types.size))
def jf20 (P:Program)(f:FuncId)(fn:Func)(s:ChangeSpec)(c:OpenClaim):Bool:=(c.ifacesOut == fn.resultTypes.toList.any (P.ifacesRec ·))
def jf21 (P:Program)(f:FuncId)(fn:Func)(s:ChangeSpec)(c:OpenClaim):Bool:=(c.loopsOut == fn.resultTypes.toList.any (P.loopsFrom ·))
def jf22 (P:Program)(f:FuncId)(fn:Func)(s:ChangeSpec)(c:OpenClaim):Bool:=(c.plainKeys == P.plainKeys)
def jf23 (P:Program)(f:FuncId)(fn:Func)(s:ChangeSpec)(c:OpenClaim):Bool:=c.shortTexts.isNone
def jf24 (P:Program)(f:FuncId)(fn:Func)(s:ChangeSpec)(c:OpenClaim):Bool:=P.stopsHeard
def jf25 (P:Program)(f:FuncId)(fn:Func)(s:ChangeSpec)(c:OpenClaim):Bool:=P.mayEnter
def jf26 (P:Program)(f:FuncId)(fn:Func)(s:ChangeSpec)(c:OpenClaim):Bool:=(c.lifted == P.liftsFinal)
def jf27 (P:Program)(f:FuncId)(fn:Func)(s:ChangeSpec)(c:OpenClaim):Bool:=(P.make == E c.make)
def jf28 (P:Program)(f:FuncId)(fn:Func)(s:ChangeSpec)(c:OpenClaim):Bool:=(c.kinds == (if c.domain.isEmpty then []else fn.params.toList.map fun t=>match P.underlying t with|some (.int k)=>E k|_=>O))
def jf29 (P:Program)(f:FuncId)(fn:Func)(s:ChangeSpec)(c:OpenClaim):Bool:=(c.pinned == c.pinnedBy)
def jf30 (P:Program)(f:FuncId)(fn:Func)(s:ChangeSpec)(c:OpenClaim):Bool:=(c.veiled == (fn.params.toList++s.plain.varTypes P++fn.resultTypes.toList).any (P.veiledRec ·))
def jf31 (P:Program)(f:FuncId)(fn:Func)(s:ChangeSpec)(c:OpenClaim):Bool:=c.veiledFits P fn.params.toList (fn.params.toList++s.plain.varTypes P++fn.resultTypes.toList)
theorem zoU {P:Program}{f:FuncId}{a:Func}{s:ChangeSpec}{c:OpenClaim}(b:jf0 P f a s c=true)(h1:jf1 P f a s c=true)(h2:jf2 P f a s c=true)(A:jf3 P f a s c=true)(D:jf4 P f a s c=true)(F:jf5 P f a s c=true)(I:jf6 P f a s c=true)(J:jf7 P f a s c=true)(K:jf8 P f a s c=true)(L:jf9 P f a s c=true)(d:jf10 P f a s c=true)(e:jf11 P f a s c=true)(g:jf12 P f a s c=true)(h:jf13 P f a s c=true)(i:jf14 P f a s c=true)(j:jf15 P f a s c=true)(k:jf16 P f a s c=true)(l:jf17 P f a s c=true)(m:jf18 P f a s c=true)(o:jf19 P f a s c=true)(p:jf20 P f a s c=true)(q:jf21 P f a s c=true)(r:jf22 P f a s c=true)(t:jf23 P f a s c=true)(u:jf24 P f a s c=true)(v:jf25 P f a s c=true)(w:jf26 P f a s c=true)(x:jf27 P f a s c=true)(y:jf28 P f a s c=true)(z:jf29 P f a s c=true)(B:jf30 P f a s c=true)(C:jf31 P f a s c=true):joinedFacts P f a s c=true:=by
 unfold joinedFacts;unfold jf0 at b;unfold jf1 at h1;unfold jf2 at h2;unfold jf3 at A;unfold jf4 at D;unfold jf5 at F;unfold jf6 at I;unfold jf7 at J;unfold jf8 at K;unfold jf9 at L;unfold jf10 at d;unfold jf11 at e;unfold jf12 at g;unfold jf13 at h;unfold jf14 at i;unfold jf15 at j;unfold jf16 at k;unfold jf17 at l;unfold jf18 at m;unfold jf19 at o;unfold jf20 at p;unfold jf21 at q;unfold jf22 at r;unfold jf23 at t;unfold jf24 at u;unfold jf25 at v;unfold jf26 at w;unfold jf27 at x;unfold jf28 at y;unfold jf29 at z;unfold jf30 at B;unfold jf31 at C;simp only[b,h1,h2,A,D,F,I,J,K,L,d,e,g,h,i,j,k,l,m,o,p,q,r,t,u,v,w,x,z,B,C,Bool.and_true,Bool.and_self,zaT];try exact y
theorem jq1:(laidOutB pg)=true:=by kernel_rfl
theorem jp1 (f:FuncId)(a:Func)(s:ChangeSpec)(c:OpenClaim):jf1 pg f a s c=true:=jq1
theorem jq2:(mapsRowed pg)=true:=by kernel_rfl
theorem jp2 (f:FuncId)(a:Func)(s:ChangeSpec)(c:OpenClaim):jf2 pg f a s c=true:=jq2
theorem jq6:((Tryz.prog.stops == []))=true:=by kernel_rfl
theorem jp6 (f:FuncId)(a:Func)(s:ChangeSpec)(c:OpenClaim):jf6 pg f a s c=true:=jq6
theorem jq8:((Tryz.prog.stopKnobs == []))=true:=by kernel_rfl
theorem jp8 (f:FuncId)(a:Func)(s:ChangeSpec)(c:OpenClaim):jf8 pg f a s c=true:=jq8
theorem jq24:(Tryz.prog.stopsHeard)=true:=by kernel_rfl
theorem jp24 (f:FuncId)(a:Func)(s:ChangeSpec)(c:OpenClaim):jf24 pg f a s c=true:=jq24
theorem jq25:(Tryz.prog.mayEnter)=true:=by kernel_rfl
theorem jp25 (f:FuncId)(a:Func)(s:ChangeSpec)(c:OpenClaim):jf25 pg f a s c=true:=jq25
theorem zrV:false=Tryz.prog.looks []:=by kernel_rfl
