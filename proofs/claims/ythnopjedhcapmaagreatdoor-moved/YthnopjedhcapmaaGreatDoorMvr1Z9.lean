import Derived.Test.YthnopjedhcapmaaGreatDoorMvr1Z8
open Option renaming none->O,some->E
open Go.Value renaming slice->V,bool->G,string->gS,pointer->pn,tuple->tp,int->it,agg->ag
open Go.Obj renaming cells->cl
open Go renaming World->H
open Go.Proofs.Tryz renaming prog->pg
open Go.Proofs.Tryz
open Go.Ending renaming returned->Xa
open Go.IntKind renaming i64->Xb
open Go.Addr renaming mk->Xd
set_option linter.unusedSimpArgs false
set_option linter.unusedVariables false
set_option maxHeartbeats 4000000
set_option maxRecDepth 100000
namespace Go.Proofs.YthnopjedhcapmaaGreatDoor
section
open Go.RowKit
def za6:L_->L_->L_->Bool
 |m::ms,x::xs,y::ys=>if x=y then za6 ms xs ys else(decide (y<x) == decide (0<m))
 |_,_,_=>false
theorem zf8:∀{c xs ys:L_},(∀(j:Nat) (x y:Int),xs[j]? =E x->ys[j]? =E y->x=y)->za6 c xs ys=false
 |[],_,_,_=>by simp[za6]
 |_::_,[],_,_=>by simp[za6]
 |_::_,_::_,[],_=>by simp[za6]
 |m::c,x::xs,y::ys,h=>by
  rw[za6,zQ (h 0 x y rfl rfl)];exact zf8 (fun j a b d hb=>h (j+1) a b (by simpa using d) (by simpa using hb))
theorem zfS:∀{e xs ys:L_} {i:Nat} {m x y:Int},(∀(j:Nat) (x y:Int),j<i->xs[j]? =E x->ys[j]? =E y->x=y)->e[i]? =E m->xs[i]? =E x->ys[i]? =E y->x≠y->za6 e xs ys=(decide (y<x) == decide (0<m))
 |[],_,_,_,_,_,_,_,h,_,_,_=>by simp at h
 |_::_,[],_,_,_,_,_,_,_,h,_,_=>by simp at h
 |_::_,_::_,[],_,_,_,_,_,_,_,h,_=>by simp at h
 |a::e,b::xs,c::ys,0,m,x,y,_,h1,h2,d,f=>by
  simp at h1 h2 d;subst h1 h2 d;rw[za6,zO f]
 |a::e,b::xs,c::ys,i+1,m,x,y,h,h1,h2,d,f=>by
  rw[za6,zQ (h 0 b c om rfl rfl)];exact zfS (i:=i) (fun j p q l g k=>h (j+1) p q om (by simpa using g) (by simpa using k)) (by simpa using h1) (by simpa using h2) (by simpa using d) f
theorem zk8 (w:H)(vM vL vH vG vS vR u v:Value)(mx xs ys:L_)(hM:Jf w vM mx)(hu:Jf w u xs)(hv:Jf w v ys)(hl:xs.length=mx.length)(hl':ys.length=mx.length)(hn:mx.length<=4):
 C_ 19 #[ag #[vM,vL,vH,vG,vS,vR],u,v] w fun e w'=>e=Xa (G (za6 mx xs ys))/\b_ w w':=by
 obtain⟨n0,x0⟩:=new1 w (cl #[vM,vL,vH,vG,vS,vR] 25);obtain⟨mo,mp,rfl,hm⟩:=hM;obtain⟨ao,cap,rfl,hr⟩:=hu;obtain⟨bo,cbp,rfl,hs⟩:=hv;have HL:=zf (Xc hl hl');rw[hl]at hr⊢;rw[hl']at hs⊢;have HMX:=zf hm;have HR:=zf hr;have HS:=zf hs;go_enter Tryz.func19,Tryz.ntmps19
 go_wp2;generalize World.alloc _ _=w0 at *;go_loopw [7] (fun iv wr=>∃(i:Nat),i<=mx.length/\iv=i_ (i:Nat)/\Hid (∀(j:Nat) (x y:Int),j<i->xs[j]? =E x->ys[j]? =E y->x=y)/\Ext w0 wr) (fun iv _=>((mx.length:Int)-intOf iv).toNat)
 case atStart=>exact⟨0,by omega,rfl,fun j x y hj=>by omega,Xe _⟩
 case round=>
  obtain⟨i,hil,rfl,HQ,xr⟩:=hrel;by_cases hin:i<mx.length
  ·obtain⟨hL1,hL2⟩:=HL.out;obtain⟨gm,om,rfl,hgm,hcm⟩:=HMX.out (by omega);obtain⟨g,off,rfl,hg,hcell⟩:=HR.out (by omega);obtain⟨g',off',rfl,hg',hcell'⟩:=HS.out (by omega);have hmi:=zg hin;have hxi:=zg (show i<xs.length by omega);have hyi:=zg (show i<ys.length by omega);have cm:=(x0.trans xr).cell (hcm i _ hmi);have c0:=(x0.trans xr).cell (hcell i _ hxi);have c1:=(x0.trans xr).cell (hcell' i _ hyi);have cb:=xr.cell (ze _ _ 0 _ _ _ n0);have HA:=zf (zfS (fun j x y=>HQ.out j x y) hmi hxi hyi);have HXY:=zf (Xc hxi hyi);generalize mx[i]=m at *;generalize xs[i]=x at *;generalize ys[i]=y at *;go_wp2;refine ZO (S:=fun W=>W.cell? ⟨g,off+i,O⟩=E (i_ x)/\W.cell? ⟨g',off'+i,O⟩=E (i_ y)) (by kernel_rfl) ⟨c0,c1⟩ (fun hHeld=>?_);by_cases hxy:x=y
   ·refine tkv 0 ?_;refine tkl [1,2,3,4,5,6,7,8] ?_;refine zV (by kernel_rfl) ?_ _;go_wp2;go_roundw
    case rel=>
     refine⟨i+1,by omega,by go_num,fun j a b hj ha hb=>?_,xr.drew⟩;by_cases hji:j<i
     ·exact HQ.out j a b hji ha hb
     ·obtain rfl:j=i:=by omega
      rw[HXY.out.1]at ha;rw[HXY.out.2]at hb;cases ha;cases hb;exact hxy
    case measure=>simp[intOf];omega
   ·refine tkv 0 ?_;refine tkl [1,2,3,4,5,6,7,8] ?_;refine zV (by kernel_rfl) ?_ _;go_wp2;refine ZO (S:=fun W=>W.cell? ⟨g,off+i,O⟩=E (i_ x)/\W.cell? ⟨g',off'+i,O⟩=E (i_ y)/\W.cell? (y_ w 0)=E (V (E (Xd gm om O)) mx.length mp)/\W.cell? ⟨gm,om+i,O⟩=E (i_ m)) (by kernel_rfl) ⟨c0,c1,cb,cm⟩ (fun hHeld=>?_);have HA2:=zf (HA.out hxy);refine tkl [0,1,2,3,4,5,6,7,8,9,10,11,12,13,14,15,16] ?_;refine zV (by kernel_rfl) ?_ _;go_wp2;go_ret;exact⟨by rw[HA2.out];rfl,(x0.trans xr).drew.drew⟩
  ·obtain rfl:i=mx.length:=by omega
   have HF:Hid (za6 mx xs ys=false):=zf8 (fun j x y hx hy=>HQ.out j x y (by have:=(zo.1 hx).1;have:=HL.out.1;omega) hx hy);go_wp2;go_ret;exact⟨by rw[HF.out];rfl,x0.trans xr⟩
theorem ba_ne {x y:ByteArray}(h:x≠y):(x.toList == y.toList)=false:=by
 rw[zck,zck];cases hb:(x.data.toList == y.data.toList)with
 |false=>rfl
 |true=>
  refine absurd ?_ h;have⟨⟨a⟩⟩:=x;have⟨⟨b⟩⟩:=y;have e:a=b:=by simpa using hb
  rw[e]
def zeX (w:H)(v:Value)(zs:List ByteArray):Prop:=
 ∃ao cap,v=V ao zs.length cap/\(0<zs.length->∃g off,ao=E (Xd g off O)/\g<w.heap.size/\∀(i:Nat) (z:ByteArray),zs[i]? =E z->w.cell? ⟨g,off+i,O⟩=E (gS z))
theorem zl2 (w:H)(u v:Value)(xs ys:List ByteArray)(U:zeX w u xs)(X:zeX w v ys)(hn:xs.length<=1000)(a2:ys.length<=1000):
 C_ 13 #[u,v] w fun e w'=>e=Xa (G (decide (xs=ys)))/\b_ w w':=by
 obtain⟨_,_,rfl,R⟩:=U;obtain⟨_,_,rfl,T⟩:=X;have B:=zf R;have r:=zf T;by_cases m:xs.length=ys.length
 ·have f:=zf m;rw[<-m]at r⊢;go_enter func13,ntmps13
  go_wp2;go_loopw [5] (fun p wr=>∃(i:Nat),i<=xs.length/\p=i_ (i:Nat)/\Hid (∀(j:Nat) (x y:ByteArray),j<i->xs[j]? =E x->ys[j]? =E y->x=y)/\Ext w wr) (fun p _=>((xs.length:Int)-intOf p).toNat)
  case atStart=>exact⟨0,om,rfl,fun j x y d=>om,Xe _⟩
  case round=>
   obtain⟨i,_,rfl,q,b⟩:=hrel;by_cases N:i<xs.length
   ·have a0:=f.out;obtain⟨J,off,rfl,_,L⟩:=B.out om;obtain⟨K,Y,rfl,_,M⟩:=r.out om;have t:=zg N;have z:=zg (show i<ys.length by omega);have F:=b.cell (L i _ t);have I:=b.cell (M i _ z);have c:=zf (Xc t z);generalize xs[i]=x at *;generalize ys[i]=y at *;go_wp2;refine ZO (S:=fun W=>W.cell? ⟨J,off+i,O⟩=E (gS x)/\W.cell? ⟨K,Y+i,O⟩=E (gS y)) kr ⟨F,I⟩ (fun Z=>?_);by_cases o:x=y
    ·refine tkv 0 ?_;refine tkl [1,2,3,4,5,6,7,8] ?_;refine zV kr ?_ _;go_wp2;go_roundw
     case rel=>
      refine⟨i+1,om,by go_num,fun j C D d k l=>?_,b.drew⟩;by_cases Q:j<i
      ·exact q.out j C D Q k l
      ·obtain rfl:j=i:=om;rw[c.out.1]at k;rw[c.out.2]at l;cases k;cases l;exact o
     case measure=>simp[intOf];omega
    ·have g:Hid (decide (xs=ys)=false):=by
      refine J2 (fun e=>o ?_);have a:=c.out.1;rw[e,c.out.2]at a;exact(Q8 a).symm
     have a3:=ba_ne o;refine tkl [0,1,2,3,4,5,6,7,8] ?_;refine zV kr ?_ _;go_wp2;go_ret;exact⟨by rw[g.out];rfl,b.drew⟩
   ·obtain rfl:i=xs.length:=om;have A:Hid (decide (xs=ys)=true):=by
     refine zbA (zbn fun j=>?_);by_cases d:j<xs.length
     ·have P:j<ys.length:=by have:=f.out;omega
      have a:=zg d;have s:=zg P;rw[a,s,q.out j _ _ d a s]
     ·rw[qL om,qL (by have:=f.out;omega)]
    go_wp2;go_ret;exact⟨by rw[A.out];rfl,b⟩
 ·have g:Hid (decide (xs=ys)=false):=J2 (fun e=>m (by rw[e]));have a1:¬(xs.length:Int)=(ys.length:Int):=om;go_enter func13,ntmps13
  go_wp2;go_ret;exact⟨by rw[g.out];rfl,qf _ _⟩
attribute [local go_sem] zD zW qJ
theorem zrU (a:A_)(n cap:Nat)(b:A_)(m c:Nat)(w:H):
 C_ 90 #[ag #[V a n cap,V b m c]] w fun e w'=>e=Xa (.func (.func 151) #[] #[p_ w.heap.size 0])/\w'=w.alloc (cl #[V a n cap,V b m c] 73):=by
 go_enter func90,ntmps90
 go_wp2;go_ret;exact⟨rfl,rfl⟩
end

section
open Go.ChangeShapes Go.WideShapes Go.ChangeAt Go.RowKit
def jf0 (P:Program)(f:FuncId)(fn:Func)(s:ChangeSpec)(c:OpenClaim):Bool:=c.wf (OpenSpec.ofChange s)
def jf1 (P:Program)(f:FuncId)(fn:Func)(s:ChangeSpec)(c:OpenClaim):Bool:=laidOutB P
def jf2 (P:Program)(f:FuncId)(fn:Func)(s:ChangeSpec)(c:OpenClaim):Bool:=mapsRowed P
def jf3 (P:Program)(f:FuncId)(fn:Func)(s:ChangeSpec)(c:OpenClaim):Bool:=fn.params.all (P.readableRec ·)
def jf4 (P:Program)(f:FuncId)(fn:Func)(s:ChangeSpec)(c:OpenClaim):Bool:=namedTie P c.named s.vars
def jf5 (P:Program)(f:FuncId)(fn:Func)(s:ChangeSpec)(c:OpenClaim):Bool:=(c.stops == [])
def jf6 (P:Program)(f:FuncId)(fn:Func)(s:ChangeSpec)(c:OpenClaim):Bool:=(P.stops == [])
def jf7 (P:Program)(f:FuncId)(fn:Func)(s:ChangeSpec)(c:OpenClaim):Bool:=(c.knobs == [])
def jf8 (P:Program)(f:FuncId)(fn:Func)(s:ChangeSpec)(c:OpenClaim):Bool:=(P.stopKnobs == [])
def jf9 (P:Program)(f:FuncId)(fn:Func)(s:ChangeSpec)(c:OpenClaim):Bool:=(c.inPlace == P.inPlace f)
def jf10 (P:Program)(f:FuncId)(fn:Func)(s:ChangeSpec)(c:OpenClaim):Bool:=(c.unfollowed == P.unfollowed f)
def jf11 (P:Program)(f:FuncId)(fn:Func)(s:ChangeSpec)(c:OpenClaim):Bool:=(c.recurses == P.recurses f)
def jf12 (P:Program)(f:FuncId)(fn:Func)(s:ChangeSpec)(c:OpenClaim):Bool:=(c.named == P.varsNamed f)
def jf13 (P:Program)(f:FuncId)(fn:Func)(s:ChangeSpec)(c:OpenClaim):Bool:=(c.maps == (fn.params.toList++s.plain.varTypes P).any (P.mapsRec ·))
def jf14 (P:Program)(f:FuncId)(fn:Func)(s:ChangeSpec)(c:OpenClaim):Bool:=(c.ifaces == (fn.params.toList++s.plain.varTypes P).any (P.ifacesRec ·))
def jf15 (P:Program)(f:FuncId)(fn:Func)(s:ChangeSpec)(c:OpenClaim):Bool:=(c.mapsOut == P.mapsAmong fn.resultTypes.toList)
def jf16 (P:Program)(f:FuncId)(fn:Func)(s:ChangeSpec)(c:OpenClaim):Bool:=(c.loops == (fn.params.toList++s.plain.varTypes P).any (P.loopsFrom ·))
def jf17 (P:Program)(f:FuncId)(fn:Func)(s:ChangeSpec)(c:OpenClaim):Bool:=(c.wideKeys == (fn.params.toList++s.plain.varTypes P++fn.resultTypes.toList).any (P.wideKeysFrom ·))
def jf18 (P:Program)(f:FuncId)(fn:Func)(s:ChangeSpec)(c:OpenClaim):Bool:=s.vars.all (P.varReadable ·)
def jf19 (P:Program)(f:FuncId)(fn:Func)(s:ChangeSpec)(c:OpenClaim):Bool:=fn.resultTypes.all (fun t=>P.readableRec t&&decide (t<P.types.size))
def jf20 (P:Program)(f:FuncId)(fn:Func)(s:ChangeSpec)(c:OpenClaim):Bool:=(c.ifacesOut == fn.resultTypes.toList.any (P.ifacesRec ·))
def jf21 (P:Program)(f:FuncId)(fn:Func)(s:ChangeSpec)(c:OpenClaim):Bool:=(c.loopsOut == fn.resultTypes.toList.any (P.loopsFrom ·))
def jf22 (P:Program)(f:FuncId)(fn:Func)(s:ChangeSpec)(c:OpenClaim):Bool:=(c.plainKeys == P.plainKeys)
def jf23 (P:Program)(f:FuncId)(fn:Func)(s:ChangeSpec)(c:OpenClaim):Bool:=c.shortTexts.isNone
def jf24 (P:Program)(f:FuncId)(fn:Func)(s:ChangeSpec)(c:OpenClaim):Bool:=P.stopsHeard
def jf25 (P:Program)(f:FuncId)(fn:Func)(s:ChangeSpec)(c:OpenClaim):Bool:=P.mayEnter
def jf26 (P:Program)(f:FuncId)(fn:Func)(s:ChangeSpec)(c:OpenClaim):Bool:=(c.lifted == P.liftsFinal)
def jf27 (P:Program)(f:FuncId)(fn:Func)(s:ChangeSpec)(c:OpenClaim):Bool:=(P.make == E c.make)
def jf28 (P:Program)(f:FuncId)(fn:Func)(s:ChangeSpec)(c:OpenClaim):Bool:=(c.kinds == (if c.domain.isEmpty then []else fn.params.toList.map fun t=>match P.underlying t with|some (.int k)=>E k|_=>O))
def jf29 (P:Program)(f:FuncId)(fn:Func)(s:ChangeSpec)(c:OpenClaim):Bool:=(c.pinned == c.pinnedBy)
def jf30 (P:Program)(f:FuncId)(fn:Func)(s:ChangeSpec)(c:OpenClaim):Bool:=(c.veiled == (fn.params.toList++s.plain.varTypes P++fn.resultTypes.toList).any (P.veiledRec ·))
def jf31 (P:Program)(f:FuncId)(fn:Func)(s:ChangeSpec)(c:OpenClaim):Bool:=c.veiledFits P fn.params.toList (fn.params.toList++s.plain.varTypes P++fn.resultTypes.toList)
theorem zoU {P:Program}{f:FuncId}{a:Func}{s:ChangeSpec}{c:OpenClaim}(b:jf0 P f a s c=true)(h1:jf1 P f a s c=true)(h2:jf2 P f a s c=true)(A:jf3 P f a s c=true)(D:jf4 P f a s c=true)(F:jf5 P f a s c=true)(I:jf6 P f a s c=true)(J:jf7 P f a s c=true)(K:jf8 P f a s c=true)(L:jf9 P f a s c=true)(d:jf10 P f a s c=true)(e:jf11 P f a s c=true)(g:jf12 P f a s c=true)(h:jf13 P f a s c=true)(i:jf14 P f a s c=true)(j:jf15 P f a s c=true)(k:jf16 P f a s c=true)(l:jf17 P f a s c=true)(m:jf18 P f a s c=true)(o:jf19 P f a s c=true)(p:jf20 P f a s c=true)(q:jf21 P f a s c=true)(r:jf22 P f a s c=true)(t:jf23 P f a s c=true)(u:jf24 P f a s c=true)(v:jf25 P f a s c=true)(w:jf26 P f a s c=true)(x:jf27 P f a s c=true)(y:jf28 P f a s c=true)(z:jf29 P f a s c=true)(B:jf30 P f a s c=true)(C:jf31 P f a s c=true):joinedFacts P f a s c=true:=by
 unfold joinedFacts;unfold jf0 at b;unfold jf1 at h1;unfold jf2 at h2;unfold jf3 at A;unfold jf4 at D;unfold jf5 at F;unfold jf6 at I;unfold jf7 at J;unfold jf8 at K;unfold jf9 at L;unfold jf10 at d;unfold jf11 at e;unfold jf12 at g;unfold jf13 at h;unfold jf14 at i;unfold jf15 at j;unfold jf16 at k;unfold jf17 at l;unfold jf18 at m;unfold jf19 at o;unfold jf20 at p;unfold jf21 at q;unfold jf22 at r;unfold jf23 at t;unfold jf24 at u;unfold jf25 at v;unfold jf26 at w;unfold jf27 at x;unfold jf28 at y;unfold jf29 at z;unfold jf30 at B;unfold jf31 at C;simp only[b,h1,h2,A,D,F,I,J,K,L,d,e,g,h,i,j,k,l,m,o,p,q,r,t,u,v,w,x,z,B,C,Bool.and_true,Bool.and_self,zaT];try exact y
theorem jq1:(laidOutB pg)=true:=by kernel_rfl
theorem jp1 (f:FuncId)(a:Func)(s:ChangeSpec)(c:OpenClaim):jf1 pg f a s c=true:=jq1
theorem jq2:(mapsRowed pg)=true:=by kernel_rfl
theorem jp2 (f:FuncId)(a:Func)(s:ChangeSpec)(c:OpenClaim):jf2 pg f a s c=true:=jq2
theorem jq6:((Tryz.prog.stops == []))=true:=by kernel_rfl
theorem jp6 (f:FuncId)(a:Func)(s:ChangeSpec)(c:OpenClaim):jf6 pg f a s c=true:=jq6
theorem jq8:((Tryz.prog.stopKnobs == []))=true:=by kernel_rfl
theorem jp8 (f:FuncId)(a:Func)(s:ChangeSpec)(c:OpenClaim):jf8 pg f a s c=true:=jq8
theorem jq24:(Tryz.prog.stopsHeard)=true:=by kernel_rfl
theorem jp24 (f:FuncId)(a:Func)(s:ChangeSpec)(c:OpenClaim):jf24 pg f a s c=true:=jq24
theorem jq25:(Tryz.prog.mayEnter)=true:=by kernel_rfl
theorem jp25 (f:FuncId)(a:Func)(s:ChangeSpec)(c:OpenClaim):jf25 pg f a s c=true:=jq25
theorem zrV:false=Tryz.prog.looks []:=by kernel_rfl
end

section
open Go.RowKit
attribute [local go_sem] zD zW qJ
theorem zkJ (w:H)(a b c d f:Obj):(((((w.alloc a).alloc b).alloc c).alloc d).alloc f).heap[w.heap.size]? =E a/\(((((w.alloc a).alloc b).alloc c).alloc d).alloc f).heap[w.heap.size+1]? =E b/\(((((w.alloc a).alloc b).alloc c).alloc d).alloc f).heap[w.heap.size+1+1]? =E c/\(((((w.alloc a).alloc b).alloc c).alloc d).alloc f).heap[w.heap.size+1+1+1]? =E d/\(((((w.alloc a).alloc b).alloc c).alloc d).alloc f).heap[w.heap.size+1+1+1+1]? =E f:=by
 have⟨g,h,i,j⟩:=zeK w a b c d;have k:((((w.alloc a).alloc b).alloc c).alloc d).heap.size=w.heap.size+1+1+1+1:=sp;have e:=qR ((((w.alloc a).alloc b).alloc c).alloc d) f;rw[k]at e;refine⟨?_,?_,?_,?_,e⟩;·rw[qH _ _ _ om];exact g
 ·rw[qH _ _ _ om];exact h
 ·rw[qH _ _ _ om];exact i
 ·rw[qH _ _ _ om];exact j
theorem RdI.start (w:H)(a:List (U_×Bool))(s:ByteArray):
 RdI w a 0 qF.none (V_) (V_) (((((w.alloc (cl #[V_,V_] 73)).alloc (cl #[i_ 0] 3)).alloc (cl #[V_,V_] 73)).alloc (cl #[i_ 1] 3)).alloc (cl #[gS s] 9)):=by
 have⟨b,d,a,f,h⟩:=zkJ w (cl #[V_,V_] 73) (cl #[i_ 0] 3) (cl #[V_,V_] 73) (cl #[i_ 1] 3) (cl #[gS s] 9);have c:∀g,Value.ownBlock (V_)=E g->False:=fun g e=>by cases e
 refine⟨⟨⟨ze _ _ _ _ _ _ a,ze _ _ _ _ _ _ a,ZK _ _ _ _ _ a,ZK _ _ _ _ _ a,Jw a⟩,zE a (fun v a=>?_),Or.inl ⟨rfl,rfl⟩,fun g e=>(c g e).elim,[],rfl,zaf _ _ _ _,fun i r row g i=>by simp at g⟩,zbU.start,sp,ze _ _ _ _ _ _ f,ZK _ _ _ _ _ f,
  ⟨ze _ _ _ _ _ _ b,ze _ _ _ _ _ _ b,ZK _ _ _ _ _ b,ZK _ _ _ _ _ b,Jw b⟩,ze _ _ _ _ _ _ d,ZK _ _ _ _ _ d,?_,fun x b=>?_,Jw h⟩
 ·simp only[zI,zY,Zp]at a;intro n e;rcases a with rfl|rfl<;>cases e
 ·exact((zbt w _ _ _).alloc so _).alloc so _
 ·rcases b with e|e|e
  ·exact Or.inl e
  ·exact(c x e).elim
  ·exact(c x e).elim
theorem zke {w X:H}{k:Nat}{b:Int}(hb:Zh X w.heap.size (V_) (V_))(h1:X.cell? ⟨w.heap.size+1,0,O⟩=E (i_ b))(i:b_ w X)(M:Nat->Prop)(a:M w.heap.size/\M (w.heap.size+1)):
 Wr M X (((X.setCell (Xd w.heap.size 0 O) (V_)).setCell (Xd w.heap.size 1 O) (V_)).setCell ⟨w.heap.size+1,0,O⟩ (i_ ((k:Int)+1))).drew/\
  Zh (((X.setCell (Xd w.heap.size 0 O) (V_)).setCell (Xd w.heap.size 1 O) (V_)).setCell ⟨w.heap.size+1,0,O⟩ (i_ ((k:Int)+1))).drew w.heap.size (V_) (V_)/\
  (((X.setCell (Xd w.heap.size 0 O) (V_)).setCell (Xd w.heap.size 1 O) (V_)).setCell ⟨w.heap.size+1,0,O⟩ (i_ ((k:Int)+1))).drew.cell? ⟨w.heap.size+1,0,O⟩=E (i_ ((k:Int)+1))/\
  b_ w (((X.setCell (Xd w.heap.size 0 O) (V_)).setCell (Xd w.heap.size 1 O) (V_)).setCell ⟨w.heap.size+1,0,O⟩ (i_ ((k:Int)+1))).drew:=by
 obtain⟨c,d,e,f,g⟩:=hb;have h:(X.setCell (y_ w 0) (V_)).cell? (y_ w 1)=E (V_):=by rw[zA _ _ _ _ sp];exact d
 have d:((X.setCell (y_ w 0) (V_)).setCell (y_ w 1) (V_)).cell? (x_ w 0)=E (i_ b):=by
  rw[qj _ _ _ _ sp,qj _ _ _ _ sp];exact h1
 refine⟨(((Xj M X).setCell (p:=(y_ w 0)) a.1 _).setCell (p:=(y_ w 1)) a.1 _).setCell (p:=(x_ w 0)) a.2 _ |>.trans (Xp _ _),⟨?_,?_,by simpa using e,by simpa using f,by simpa using g⟩,zN _ _ _ d,?_⟩
 ·show World.cell? (World.setCell _ _ _) _=_
  rw[qj _ _ _ _ sp,zA _ _ _ _ sp];exact zN _ _ _ c
 ·show World.cell? (World.setCell _ _ _) _=_
  rw[qj _ _ _ _ sp];exact zN _ _ _ h
 ·exact zc6 (((i.setCell (p:=(y_ w 0)) (zh _) _).setCell (p:=(y_ w 1)) (zh _) _).setCell (p:=(x_ w 0)) sp _)
theorem zlc (s:U_)(hs:s.length<=2000)(w:H):
 C_ 43 #[gS ⟨s.toArray⟩] w fun e w'=>b_ w w'/\
  (
   (∃k:Nat,ju 0 qF.none (QW s)= .error k/\e=Xa (tp #[ag #[V_,V_],i_ (k:Nat)]))\/
   ∃p,ju 0 qF.none (QW s)= .ok p/\(((QW s).length<2+p.n/\e=Xa (tp #[ag #[V_,V_],i_ (((QW s).length+1:Nat):Int)]))\/
    (¬(QW s).length<2+p.n/\∃f b,e=Xa (tp #[ag #[f,b],i_ 0])/\DQ w' (w.heap.size+1+1) p f b/\zbU (QW s).length p/\∀x,Own (w.heap.size+1+1) f b x->w.heap.size<=x))):=by
 have hm:Tryz.prog.follows .mixedOrders=true:=kr;have u:=zf (of_seq s om (w.heap.size+1+1+1+1));have t:=zf (fun k x (S:(QW s)[k]? =E x)=>zF (zqY s k x S) hs);have a:(QW s).length<=2000:=zF (zgA s.length s).1 hs;obtain⟨d,hLL⟩:∃d,QW s=d:=⟨_,rfl⟩;rw[hLL]at u t a⊢;clear hLL;have F:=zf (RdI.start w d ⟨s.toArray⟩);refine Q0 func43 ntmps43 (h:=?_);gi_wp2;refine(zq.2 (of_mk _ _)).mono ?_;rintro e a ⟨rfl,rfl⟩;gi_wp2;refine zaW u.out rfl (qW func143 kr rfl) (fun c hv=>?_)
  (fun k M A=>k<=d.length/\∃p f b,Hid (RdI w d k p f b A)/\A.cell? ⟨w.heap.size+1+1+1+1,0,O⟩=E (gS ⟨s.toArray⟩)/\∀x,M x↔(x=w.heap.size\/x=w.heap.size+1\/x=w.heap.size+1+1+1)\/Own (w.heap.size+1+1) f b x)
  (fun X k A=>X= .ret/\Hid (ju 0 qF.none d= .error (k+1)/\Zh A w.heap.size (V_) (V_)/\A.cell? (x_ w 0)=E (i_ ((k:Int)+1))/\b_ w A))
  (fun x=>(x=w.heap.size\/x=w.heap.size+1\/x=w.heap.size+1+1+1)\/Own (w.heap.size+1+1) (V_) (V_) x) ?hI ?hIx ?hC ?h0 ?round ?done ?stop
 case hI=>
  rintro k M A a ⟨r,p,f,b,h,v,y⟩ o;exact⟨r,p,f,b,h.out.keep o so,o.cell v,y⟩
 case hIx=>
  rintro X k A a ⟨r,h⟩ o;exact⟨r,h.out.1,h.out.2.1.keep o,o.cell h.out.2.2.1,o.below h.out.2.2.2 so (zh _)⟩
 case hC=>
  rintro k M A ⟨r,p,f,b,h,v,y⟩;refine⟨v,fun x K=>?_⟩;have a:=h.out.2.2.2.2.2.2.2.2.2.2;rcases(y x).1 K with e|e
  ·omega
  ·exact h.out.1.lt x e
 case h0=>
  refine⟨qo _,qF.none,_,_,F.out,?_,fun _=>Qb⟩;exact ze _ _ _ _ _ _ (zkJ w _ _ _ _ _).2.2.2.2
 case round=>
  rintro P k c M A hv ⟨_,p,f,b,l,T,i⟩;obtain⟨z,last,L,rfl⟩:=zjr hv;rw[qt];have a:=(zo.1 L).1;have C:=t.out k z L;unfold Zz lineV;gi_wp2;refine⟨Xg ((qf _ _).alloc (zh _) _),fun m a=>?_⟩;have q:=(zn.alloc _ A _).trans a;have c:Hid (RdI w d k p f b m):=l.out.keep q so;have N:m.cell? (y_ A 0)=E (i_ ((k:Int)+1)):=a.cell (ze _ _ _ _ _ _ (qR A _));have l1:m.cell? (y_ A 1)=E (gS ⟨z.1.toArray⟩):=a.cell (ze _ _ _ _ _ _ (qR A _));have U:m.cell? (y_ A 2)=E (G z.2):=a.cell (ze _ _ _ _ _ _ (qR A _));have l3:m.cell? (y_ A 3)=E (G last):=a.cell (ze _ _ _ _ _ _ (qR A _));have D:=l.out.2.2.2.2.2.2.2.2.2.2;have D:A.heap.size<m.heap.size:=zw N;have a0:=q.cell T;have a1:¬Own (w.heap.size+1+1) f b A.heap.size:=fun e=>by have:=l.out.1.lt _ e;omega
  have a5:¬Own (w.heap.size+1+1) f b (w.heap.size+1+1+1+1):=fun e=>by rcases l.out.2.2.2.2.2.2.2.2.2.1 _ e with e|e<;>omega
  clear a q l T;cases hye:z.2 with
  |false=>
   rw[hye]at U;have W:Hid (ju 0 qF.none d= .error (k+1)):=by
    rw[Hid,c.out.2.2.1,zhA L,zQ hye]
   obtain⟨_,_,_,_,_,q,I,Y,J,_,_⟩:=c.out;have D:=zf (zke (k:=k) q I J M ⟨(i _).2 (.inl (.inl rfl)),(i _).2 (.inl (.inr (.inl rfl)))⟩);obtain⟨f0,f1,f2,f3,f4⟩:=q;clear c t F u i;gi_wp2;gi_region_o
   all_goals gi_wp2
   all_goals exact⟨D.out.1,rfl,W.out,D.out.2⟩
  |true=>
   rw[hye]at U;have R:=zf (zoT k z.1 true last (w.heap.size+1+1) p f b m c.out.1 c.out.2.1 C om);have a:((k+1:Nat):Int)=(k:Int)+1:=sp;rw[a]at R;clear a;gi_wp2;refine(Zq P (zq.2 R.out)).mono ?_;rintro e C ⟨rfl,a,Z⟩;have a2:=a.mono (fun x e=>(i x).2 (.inr e));cases htk:jD k p (Zb z.1)with
   |none=>
    have W:Hid (ju 0 qF.none d= .error (k+1)):=by
     rw[Hid,c.out.2.2.1,zhA L,zO (by rw[hye];simp),htk]
    obtain⟨_,_,_,_,_,q,I,Y,J,m,_⟩:=c.out;have P:¬Own (w.heap.size+1+1) f b w.heap.size:=fun e=>by rcases m _ e with e|e<;>omega
    have Q:¬Own (w.heap.size+1+1) f b (w.heap.size+1):=fun e=>by rcases m _ e with e|e<;>omega
    have z:=q.same (a.block _ q.2.2.2.2 P) a.size;have a3:=a.cell (p:=(x_ w 0)) Q I;have a4:=(a.frozen (p:=(x_ w 0)) Q (zw I)).trans Y;have a4:=J.trans (a.below J.size (fun x e=>by rcases m x e with e|e<;>omega));have D:=zf (zke (k:=k) z a3 a4 M ⟨(i _).2 (.inl (.inl rfl)),(i _).2 (.inl (.inr (.inl rfl)))⟩);obtain⟨f0,f1,f2,f3,f4⟩:=z;have a3:=a.cell (p:=(y_ A 0)) a1 N;clear c t F u i q Z htk R N l1 U l3 I Y J a;simp only[Option.isSome];gi_wp2;gi_region_o
    all_goals gi_wp2
    all_goals exact⟨a2.trans D.out.1,rfl,W.out,D.out.2⟩
   |some q=>
    obtain⟨D,I,z,m⟩:=Z q htk;obtain⟨_,_,J⟩:=c.out.step a z m L hye htk;have a3:=a.cell (p:=(y_ A 0)) a1 N;have c:=a.cell (p:=⟨w.heap.size+1+1+1+1,0,O⟩) a5 a0;have a:=(i _).2 (.inl (.inr (.inr rfl)));simp only[Option.isSome];clear htk R Z N l1 U l3 t F u a0;gi_wp2;refine⟨a2.setCell (p:=(v_ w 0)) a _,_,⟨om,q,D,I,J,?_,fun _=>Qb⟩,fun x K=>?_⟩
    ·rw[qj _ _ _ _ sp];exact c
    ·rcases K with e|e
     ·exact .inl ((i x).2 (.inl e))
     ·rcases m x e with e|e
      ·exact .inl ((i x).2 (.inr e))
      ·exact .inr om
 case stop=>
  rintro D X k A c o ⟨rfl,S⟩ z;have I:w.heap.size+1+1+1+1<D:=by simp at c;omega
  have a:zn w.heap.size A (A.putObj D (.deferred O)):=zn.putObj (.deferred O) om z rfl;obtain⟨r,h,v,y⟩:=S.out;have m:=a.cell h.1;have o:=a.cell h.2.1;have q:=a.cell v;have C:=a.below y (zh _) (zh _);clear h v y S;gi_wp2;refine qh z ?_;refine⟨tp #[ag #[V_,V_],i_ ((k:Int)+1)],by simp[results,results43,go_sem,m,o,q],C,Or.inl ⟨k+1,r,sp⟩⟩
 case done=>
  rintro D M A c ⟨r,p,f,b,l,T,i⟩ z;rw[zjc]at l r;have I:w.heap.size+1+1+1+1<D:=by simp at c;omega
  obtain⟨v,N,q3,_,_,C,S,_,Y,M,_⟩:=l.out;have y:Hid (ju 0 qF.none d= .ok p):=by rw[Hid,q3,List.drop_length];rfl
  have b:p.n<=4:=by
   by_cases b:d.length=0
   ·rw[N.z b];simp[qF.none]
   ·exact(N.n om).2
  obtain⟨b,c,hvC⟩:∃b c,f=V b p.n c:=by
   rcases v.cols with ⟨h0,h⟩|⟨_,_,h,_⟩
   ·exact⟨O,0,by rw[h,h0]⟩
   ·exact⟨_,_,h⟩
  obtain⟨f,h,I⟩:=v.shapeR;obtain⟨d0,_,_,_,_⟩:=v.box;subst hvC;have J:=zf (fun(W:H) (r:W.cell? (w_ w 0)=E (V b p.n c))=>zjq (w.heap.size+1+1) p.n b c W r om);have r:=zf (zke (k:=d.length) C S Y (fun _=>True) ⟨trivial,trivial⟩);obtain⟨R,L,_,_,_⟩:=C;subst I;have P:¬Own (w.heap.size+1+1) (V b p.n c) (V f p.rows.length h) w.heap.size:=fun e=>by rcases M _ e with e|e<;>omega
  have Q:¬Own (w.heap.size+1+1) (V b p.n c) (V f p.rows.length h) (w.heap.size+1):=fun e=>by rcases M _ e with e|e<;>omega
  have C:=Jw z;have C:(((A.setCell (y_ w 0) (V_)).setCell (y_ w 1) (V_)).setCell (x_ w 0) (i_ ((d.length:Int)+1))).drew.drew.heap[D]? =E (.deferred (E [])):=by
   show(World.setCell _ _ _).heap[D]? =_
   rw[qC _ _ _ _ so,qC _ _ _ _ so,qC _ _ _ _ so];exact z
  have I:(((A.setCell (y_ w 0) (V b p.n c)).setCell (y_ w 1) (V f p.rows.length h)).setCell (x_ w 0) (i_ 0)).drew.heap[D]? =E (.deferred (E [])):=by
   show(World.setCell _ _ _).heap[D]? =_
   rw[qC _ _ _ _ so,qC _ _ _ _ so,qC _ _ _ _ so];exact z
  have z:(A.setCell (y_ w 0) (V b p.n c)).cell? (y_ w 0)=E (V b p.n c):=zN _ _ _ R;have D:(A.setCell (y_ w 0) (V b p.n c)).cell? (y_ w 1)=E (V_):=by rw[zA _ _ _ _ sp];exact L
  have Z:((A.setCell (y_ w 0) (V b p.n c)).setCell (y_ w 1) (V f p.rows.length h)).cell? (y_ w 1)=E (V f p.rows.length h):=zN _ _ _ D;have o3:((A.setCell (y_ w 0) (V b p.n c)).setCell (y_ w 1) (V f p.rows.length h)).cell? (y_ w 0)=E (V b p.n c):=by rw[zA _ _ _ _ sp];exact z
  have L:((A.setCell (y_ w 0) (V b p.n c)).setCell (y_ w 1) (V f p.rows.length h)).cell? (x_ w 0)=E (i_ 0):=by rw[qj _ _ _ _ sp,qj _ _ _ _ sp];exact S
  have X:=zf ((((v.set_other (g:=w.heap.size) (j:=0) (v:=V b p.n c) P R sp sp R sp).set_other (g:=w.heap.size) (j:=1) (v:=V f p.rows.length h) P D sp sp z sp).set_int (g:=w.heap.size+1) (z':=0) Q L).keep (zn.drew 0 _));have S:(((A.setCell (y_ w 0) (V b p.n c)).setCell (y_ w 1) (V f p.rows.length h)).setCell (x_ w 0) (i_ 0)).drew.cell? (y_ w 0)=E (V b p.n c):=by
   show World.cell? (World.setCell _ _ _) _=_
   rw[qj _ _ _ _ sp];exact o3
  have U:(((A.setCell (y_ w 0) (V b p.n c)).setCell (y_ w 1) (V f p.rows.length h)).setCell (x_ w 0) (i_ 0)).drew.cell? (y_ w 1)=E (V f p.rows.length h):=by
   show World.cell? (World.setCell _ _ _) _=_
   rw[qj _ _ _ _ sp];exact Z
  have W:(((A.setCell (y_ w 0) (V b p.n c)).setCell (y_ w 1) (V f p.rows.length h)).setCell (x_ w 0) (i_ 0)).drew.cell? (x_ w 0)=E (i_ 0):=zN _ _ _ L;have R:b_ w (((A.setCell (y_ w 0) (V b p.n c)).setCell (y_ w 1) (V f p.rows.length h)).setCell (x_ w 0) (i_ 0)).drew:=zc6 (((Y.setCell (p:=(y_ w 0)) (zh _) _).setCell (p:=(y_ w 1)) (zh _) _).setCell (p:=(x_ w 0)) sp _);have Y:=zf N;have A:Hid (∀x,Own (w.heap.size+1+1) (V b p.n c) (V f p.rows.length h) x->w.heap.size<=x):=fun x K=>by rcases M x K with e|e<;>omega
  clear z D Z o3 L i T F u t q3 P Q v l;gi_wp2;refine zcM ?_;gi_region_with_o (refine(zq.2 (J.out _ (by exact d0))).mono ?_;rintro e i ⟨rfl,rfl⟩)
  all_goals simp only[]
  all_goals by_cases l:d.length<2+p.n
  ·have i:(d.length:Int)+1<=2+(p.n:Int):=om;gi_wp2;refine zcM ?_;gi_region_o
   all_goals simp only[]
   all_goals gi_wp2
   all_goals refine qh C ?_
   all_goals have a:=zn.putObj (B:=w.heap.size) (.deferred O) om C rfl
   all_goals have m:=a.cell (r.out.2.1.1)
   all_goals have o:=a.cell (r.out.2.1.2.1)
   all_goals have q:=a.cell (r.out.2.2.1)
   all_goals exact⟨tp #[ag #[V_,V_],i_ ((d.length:Int)+1)],by simp[results,results43,go_sem,m,o,q],a.below (zc6 r.out.2.2.2) (zh _) (zh _),Or.inr ⟨p,y.out,Or.inl ⟨l,sp⟩⟩⟩
  ·have i:¬(d.length:Int)+1<=2+(p.n:Int):=om;gi_wp2;refine qh I ?_;have a:=zn.putObj (B:=w.heap.size) (.deferred O) om I rfl;have m:=a.cell S;have o:=a.cell U;have q:=a.cell W;exact⟨tp #[ag #[V b p.n c,V f p.rows.length h],i_ 0],by simp[results,results43,go_sem,m,o,q],a.below R (zh _) (zh _),Or.inr ⟨p,y.out,Or.inr ⟨om,_,_,rfl,X.out.keep a,Y.out,A.out⟩⟩⟩
  ·have i:(d.length:Int)+1<=2+(p.n:Int):=om;gi_wp2;refine zcM ?_;gi_region_o
   all_goals simp only[]
   all_goals gi_wp2
   all_goals refine qh C ?_
   all_goals have a:=zn.putObj (B:=w.heap.size) (.deferred O) om C rfl
   all_goals have m:=a.cell (r.out.2.1.1)
   all_goals have o:=a.cell (r.out.2.1.2.1)
   all_goals have q:=a.cell (r.out.2.2.1)
   all_goals exact⟨tp #[ag #[V_,V_],i_ ((d.length:Int)+1)],by simp[results,results43,go_sem,m,o,q],a.below (zc6 r.out.2.2.2) (zh _) (zh _),Or.inr ⟨p,y.out,Or.inl ⟨l,sp⟩⟩⟩
  ·have i:¬(d.length:Int)+1<=2+(p.n:Int):=om;gi_wp2;refine qh I ?_;have a:=zn.putObj (B:=w.heap.size) (.deferred O) om I rfl;have m:=a.cell S;have o:=a.cell U;have q:=a.cell W;exact⟨tp #[ag #[V b p.n c,V f p.rows.length h],i_ 0],by simp[results,results43,go_sem,m,o,q],a.below R (zh _) (zh _),Or.inr ⟨p,y.out,Or.inr ⟨om,_,_,rfl,X.out.keep a,Y.out,A.out⟩⟩⟩
 ·obtain⟨_,a⟩:=Jq.1 hv;obtain⟨x,last,_,rfl⟩:=zjr a;rfl
theorem zq3 {rg:List (Int×Int)}{k:Nat}(a:k<rg.length):zao k (rg.drop k)=if 7<(rg.getD k (0,0)).2-(rg.getD k (0,0)).1 then E k else zao (k+1) (rg.drop (k+1)):=by
 rw[jt a,zao,zk,zg a];rfl
theorem zo3 {n:Nat}(h:n<10^40):n<4294967296^5:=zbr h dc
def zfb (rg:List (Int×Int)):Nat:=match zao 0 rg with|some k=>k+3|.none=>0
theorem zin (d n:Nat)(s:A_)(cap:Nat)(f:Value)(x:Nat->Nat->Value)(b:Nat)(rg:List (Int×Int))(w:H)(h:w.cell? (Xd d 0 O)=E (V s n cap))(h2:w.cell? (Xd d 1 O)=E f)(q:n<=4)(g:0<n->s=E (Xd b 0 O))(r:rg.length=n)
 (m:∀i j,i<n->j<6->w.cell? ⟨b,i*6+j,O⟩=E (x i j)) (R:∀k t,k<n->t<3->∃b a l c,x k (2*t)=G b/\x k (2*t+1)=V a l c) (o:∀k,k<n->zy w (ag #[x k 2,x k 3]) (rg.getD k (0,0)).1/\zy w (ag #[x k 4,x k 5]) (rg.getD k (0,0)).2/\(rg.getD k (0,0)).1.natAbs<10^40/\(rg.getD k (0,0)).2.natAbs<10^40):
 C_ 44 #[p_ d 0] w fun e w'=>e=Xa (i_ (zfb rg:Nat))/\b_ w w':=by
 have q:((w.alloc (cl #[i_ 0] 3)).alloc (cl #[i_ 2] 3)).cell? (Xd d 0 O)=E (V s n cap):=((zn.alloc 0 w _).trans (zn.alloc 0 _ _)).cell h;have q:((w.alloc (cl #[i_ 0] 3)).alloc (cl #[i_ 2] 3)).cell? (Xd d 1 O)=E f:=((zn.alloc 0 w _).trans (zn.alloc 0 _ _)).cell h2;have I:=zf m;have K:=zf o;have L:0<n->b<w.heap.size:=fun h0=>zw (I.out 0 0 h0 om)
 obtain⟨d,z,_,D⟩:=zeK w (cl #[i_ 0] 3) (cl #[i_ 2] 3) (cl #[V s n cap,f] 73) (cl #[V s n cap] 70);have J:=zf (Xc d (Xc z D));refine Q0 func44 ntmps44 (h:=?_);gi_wp2;refine(zq.2 (zgE _ _ _ _ _)).mono ?_;rintro e f ⟨rfl,rfl⟩;gi_wp2;refine zaW (zdK x s b n cap (w.heap.size+1+1+1) om g) rfl (qW func215 kr rfl) (fun X r=>?_)
  (fun k M A=>k<=n/\A.cell? (x_ w 0)=E (i_ ((k:Int)+2))/\A.frozen? (x_ w 0)=false/\A.cell? (y_ w 0)=E (i_ 0)/\A.frozen? (y_ w 0)=false/\A.cell? (v_ w 0)=E (V s n cap)/\b_ w A/\Hid (zao 0 rg=zao k (rg.drop k))/\∀y,M y↔y=w.heap.size\/y=w.heap.size+1)
  (fun c k A=>c= .ret/\A.cell? (y_ w 0)=E (i_ ((k:Int)+3))/\b_ w A/\Hid (zao 0 rg=E k))
  (fun y=>y=w.heap.size\/y=w.heap.size+1) ?hI ?hIx ?hC ?h0 ?round ?done ?stop
 case hI=>
  rintro k M A g ⟨f,h2,q,m,F,C,B,u,v⟩ o;exact⟨f,o.cell h2,(o.frozen h2).trans q,o.cell m,(o.frozen m).trans F,o.cell C,o.below B so (zh _),u,v⟩
 case hIx=>
  rintro c k A g ⟨f,h2,q,m⟩ o;exact⟨f,o.cell h2,o.below q so (zh _),m⟩
 case hC=>
  rintro k M A ⟨f,h2,q,m,F,C,B,u,v⟩;refine⟨⟨C,fun i j g N=>(B.cell (p:=⟨b,i*6+j,O⟩) (L om)).trans (I.out i j g N)⟩,fun y S=>?_⟩;have:=zw h2;rcases(v y).1 S with e|e
  ·simp at this;omega
  ·rw[e];exact this
 case h0=>
  obtain⟨d,z,D⟩:=J.out;exact⟨qo _,ze _ _ _ _ _ _ z,ZK _ _ _ _ _ z,ze _ _ _ _ _ _ d,ZK _ _ _ _ _ d,ze _ _ _ _ _ _ D,(zbt w _ _ _).alloc so _,by rw[Hid,Q2],fun _=>Qb⟩
 case round=>
  rintro U k X M A r ⟨a8,h2,q,m,F,C,B,u,v⟩;have d:k<n:=by
   have:=(zo.1 r).1;rwa [jJ]at this
  rw[zbx d]at r;injection r with r
  subst r;have a5:=K.out k d;have K:=zf (zq3 (rg:=rg) (k:=k) om);obtain⟨y0,a0,l0,c0,e0,e1⟩:=R k 0 d om;obtain⟨Y,J,T,N,z,D⟩:=R k 1 d om;obtain⟨Z,L,W,P,I,Q⟩:=R k 2 d om;simp only[Ql,jM,qt,Nat.reduceMul,Nat.reduceAdd]at e0 e1 z D I Q;rw[z,D,I,Q]at a5;rw[e0,e1,z,D,I,Q];obtain⟨a3,a4,a6,a7⟩:=a5;have a5:((rg.getD k (0,0)).2-(rg.getD k (0,0)).1).natAbs<4294967296^6:=by
   have d:(10:Nat)^40+10^40<4294967296^6:=dc;omega
  obtain⟨z,hlo⟩:∃z,(rg.getD k (0,0)).1=z:=⟨_,rfl⟩;obtain⟨g,hhi⟩:∃g,(rg.getD k (0,0)).2=g:=⟨_,rfl⟩;rw[hlo,hhi]at K a5;rw[hlo]at a3 a6;rw[hhi]at a4 a7;unfold Zz;gi_wp2;refine⟨Xg ((qf _ _).alloc (zh _) _),fun D Q=>?_⟩;have d:=(zn.alloc _ A _).trans Q;have I:=fun j X (r:(#[G y0,V a0 l0 c0,G Y,V J T N,G Z,V L W P]:W_)[j]? =E X)=>Q.cell ((ze _ _ j _ _ _ (qR A (cl #[G y0,V a0 l0 c0,G Y,V J T N,G Z,V L W P] 165))).trans r)
  have X:=I 2 _ rfl;have p3:=I 3 _ rfl;have p4:=I 4 _ rfl;have p5:=I 5 _ rfl;have I:w.heap.size+1<A.heap.size:=zw h2;have I:A.heap.size<D.heap.size:=zw X;have R:=d.cell h2;have q3:=(d.frozen h2).trans q;have q4:=d.cell m;have q5:=(d.frozen m).trans F;have q6:=d.cell C;have Q:=d.below B so (zh _);obtain⟨d,hA3⟩:∃d,D.setCell (x_ w 0) (i_ ((k:Int)+2+1))=d:=⟨_,rfl⟩;have a9:Wr M D d:=by rw[<-hA3];exact(Xj _ _).setCell (p:=(x_ w 0)) ((v _).2 (.inr rfl)) _
  have I:b_ w d:=by rw[<-hA3];exact Q.setCell (p:=(x_ w 0)) sp _
  have Q:d.cell? (x_ w 0)=E (i_ ((k:Int)+2+1)):=by rw[<-hA3];exact zN _ _ _ R
  have s3:d.frozen? (x_ w 0)=false:=by rw[<-hA3];simpa using q3
  have R:d.cell? (y_ w 0)=E (i_ 0):=by rw[<-hA3,qj _ _ _ _ sp];exact q4
  have s5:d.frozen? (y_ w 0)=false:=by rw[<-hA3];simpa using q5
  have s6:d.cell? (v_ w 0)=E (V s n cap):=by rw[<-hA3,qj _ _ _ _ sp];exact q6
  have s:d.cell? (y_ A 2)=E (G Y):=by rw[<-hA3,qj _ _ _ _ so];exact X
  have s:d.cell? (y_ A 3)=E (V J T N):=by rw[<-hA3,qj _ _ _ _ so];exact p3
  have s:d.cell? (y_ A 4)=E (G Z):=by rw[<-hA3,qj _ _ _ _ so];exact p4
  have s:d.cell? (y_ A 5)=E (V L W P):=by rw[<-hA3,qj _ _ _ _ so];exact p5
  have s:=a3.below I;have J:=a4.below I;have T:Hid ((g-z).natAbs<4294967296^6):=a5;gi_wp2;refine(Zq U (zq.2 (zgD d _ _ g z 5 om J s (zo3 a7) (zo3 a6)))).mono ?_;rintro e J ⟨_,rfl,s,L⟩;obtain⟨_,_,_,_,rfl,_,_⟩:=s.parts;gi_wp2;refine(Zq U (zq.2 (zjP J 7 om))).mono ?_;rintro e P ⟨_,rfl,J,N⟩;obtain⟨_,_,_,_,rfl,_,_⟩:=J.parts;gi_wp2;refine(Zq U (zq.2 (zlt P _ _ (g-z) 7 6 om (s.below N) J T.out dc))).mono ?_;rintro e J ⟨c,rfl,P,T,_,_,U⟩;have s:=(L.trans (N.mono L.size)).trans (U.mono (zF L.size N.size));have U:=(s.cell (p:=(x_ w 0)) (zw Q)).trans Q;have W:=(s.frozen (p:=(x_ w 0)) (zw Q)).trans s3;have N:=(s.cell (p:=(y_ w 0)) (zw R)).trans R;have Q:=(s.frozen (p:=(y_ w 0)) (zw R)).trans s5;have R:=(s.cell (p:=(v_ w 0)) (zw s6)).trans s6;have L:=I.trans (s.mono I.size);have I:=a9.trans (Xg s);by_cases s:7<g-z
  ·have D:0<c:=by
    have f:¬c<0:=fun e=>by have:=P.1 e;omega
    have h2:¬c=0:=fun e=>by have:=T.1 e;omega
    omega
   have d:Hid (zao 0 rg=E k):=by rw[Hid,u.out,K.out,zQ s]
   gi_wp2;refine⟨I.setCell (p:=(y_ w 0)) ((v _).2 (.inl rfl)) _,rfl,?_,L.setCell (p:=(y_ w 0)) (zh _) _,d⟩;rw[zN _ _ _ N];congr 2
   all_goals omega
  ·have D:¬0<c:=by
    intro e;have f:g-z<7\/g-z=7:=om;rcases f with f|f
    ·have:=P.2 f;omega
    ·have:=T.2 f;omega
   have d:Hid (zao 0 rg=zao (k+1) (rg.drop (k+1))):=by rw[Hid,u.out,K.out,zO s]
   gi_wp2;refine⟨I,M,⟨om,?_,W,N,Q,R,L,d,v⟩,fun y S=> .inl S⟩;rw[U];congr 2
   all_goals first|omega|(simp;omega)
 case stop=>
  rintro D c k A y o ⟨rfl,f,h2,q⟩ s;have I:w.heap.size<D:=by simp at y;omega
  have o:zn w.heap.size A (A.putObj D (.deferred O)):=zn.putObj (.deferred O) om s rfl;have z:=o.cell f;have f:=o.below h2 (zh _) (zh _);gi_wp2;refine qh s ?_;refine⟨i_ ((k:Int)+3),by simp[results,results44,go_sem,z],?_,f⟩;rw[zfb,q.out];simp
 case done=>
  rintro D M A y ⟨a8,h2,q,m,F,C,B,u,v⟩ s;rw[jJ]at u;have I:w.heap.size<D:=by simp at y;omega
  have d:Hid (zfb rg=0):=by
   rw[Hid,zfb,u.out,List.drop_eq_nil_of_le om];rfl
  have q:(A.setCell (y_ w 0) (i_ 0)).heap[D]? =E (.deferred (E [])):=(qC _ _ _ _ so).trans s;have o:zn w.heap.size (A.setCell (y_ w 0) (i_ 0)) ((A.setCell (y_ w 0) (i_ 0)).putObj D (.deferred O)):=zn.putObj (.deferred O) om q rfl;have z:=o.cell (zN A (y_ w 0) (i_ 0) m);have f:=o.below (B.setCell (p:=(y_ w 0)) (zh _) (i_ 0)) (zh _) (zh _);gi_wp2;refine qh q ?_;refine⟨i_ 0,by simp[results,results44,go_sem,z],?_,f⟩;rw[d.out];rfl
 ·obtain⟨i,g,rfl⟩:=qP.1 r;rfl
end

section
open Go.RowKit
theorem zjv {w:H}{f n:Nat}{zs:L_}(p:Whs w f zs)(d:zs.length=3*n):
 ∃x:Nat->Nat->Value,(∀i j,i<n->j<6->w.cell? ⟨f,i*6+j,O⟩=E (x i j))/\(∀k t,k<n->t<3->∃b a l c,x k (2*t)=G b/\x k (2*t+1)=V a l c)/\
  ∀k t,k<n->t<3->zy w (ag #[x k (2*t),x k (2*t+1)]) (zs.getD (3*k+t) 0):=by
 have o:∀k t,k<n->t<3->∃b a l c,w.cell? ⟨f,k*6+2*t,O⟩=E (G b)/\w.cell? ⟨f,k*6+(2*t+1),O⟩=E (V a l c)/\zy w (ag #[G b,V a l c]) (zs.getD (3*k+t) 0):=by
  intro k t g h;obtain⟨b,a,l,c,d,e,m,_,_⟩:=p.2 (3*k+t) om;rw[show 2*(3*k+t)=k*6+2*t by omega]at d;rw[show 2*(3*k+t)+1=k*6+(2*t+1)by omega]at e;exact⟨b,a,l,c,d,e,m⟩
 refine⟨fun i j=>(w.cell? ⟨f,i*6+j,O⟩).getD .nilFunc,fun i j f p=>?_,fun k t g h=>?_,fun k t g h=>?_⟩
 ·obtain⟨b,a,l,c,d,e,_⟩:=o i (j/2) f om;rcases Nat.mod_two_eq_zero_or_one j with f|f
  ·rw[show 2*(j/2)=j by omega]at d;simp only[d,qB]
  ·rw[show 2*(j/2)+1=j by omega]at e;simp only[e,qB]
 ·obtain⟨b,a,l,c,d,e,_⟩:=o k t g h;exact⟨b,a,l,c,by simp only[d,qB],by simp only[e,qB]⟩
 ·obtain⟨b,a,l,c,d,e,m⟩:=o k t g h;simp only[d,e,qB];exact m
theorem znT (a:Nat)(p:qF)(b c:Value)(w:H)(h:DQ w a p b c)(l:p.n<=4)(m:p.rg.length=p.n)(i:∀r∈p.rg,r.1.natAbs<10^40/\r.2.natAbs<10^40):
 C_ 44 #[p_ a 0] w fun e w'=>e=Xa (i_ (zfb p.rg:Nat))/\b_ w w':=by
 obtain⟨d,f,_,_,_⟩:=h.box;rcases h.cols with ⟨b,rfl⟩|⟨o,_,rfl,_,t,j⟩
 ·refine zin a p.n O 0 c (fun _ _=> .nilFunc) 0 p.rg w (by rw[b];exact d) f l (fun h=>om) m (fun b b b=>om) (fun k b b=>om) (fun k b=>om)
 ·obtain⟨x,q,s,g⟩:=zjv t j.1;refine zin a p.n _ _ c x o p.rg w d f l (fun _=>rfl) m q s (fun k b=>?_);have a:=g k 1 b om;have c:=g k 2 b om;obtain⟨b,d⟩:=j.2.2 k om;simp only[jM,Nat.reduceMul,Nat.reduceAdd]at a c;rw[b]at a;rw[d]at c;have hm:p.rg.getD k (0,0)∈p.rg:=by
   rw[zk,zg om];exact zJ _
  exact⟨a,c,(i _ hm).1,(i _ hm).2⟩
theorem DQ.moved {w:H}{a:Nat}{p:qF}{b d:A_}{n c m k:Nat}(h:DQ w a p (V b n c) (V d m k)):DQ (w.alloc (cl #[V b n c,V d m k] 73)) w.heap.size p (V b n c) (V d m k):=by
 have i:=h.lt;have f:=h.keep (zn.alloc 0 w (cl #[V b n c,V d m k] 73));have a:=qR w (cl #[V b n c,V d m k] 73);refine⟨⟨ze _ _ _ _ _ _ a,ze _ _ _ _ _ _ a,ZK _ _ _ _ _ a,ZK _ _ _ _ _ a,Jw a⟩,zE a (fun v b=>?_),?_,fun g a=>⟨(f.nodR g a).1,fun e=>by have:=i g (Or.inr (Or.inr a));omega,(f.nodR g a).2.2⟩,?_⟩
 ·simp only[zI,zY,Zp]at b;intro n e;rcases b with rfl|rfl<;>cases e
 ·rcases f.cols with a|⟨b,j,a,_,d,g⟩
  ·exact Or.inl a
  ·exact Or.inr ⟨b,j,a,fun e=>by have:=i b (Or.inr (Or.inl (by rw[a];rfl)));omega,d,g⟩
 ·have⟨_,_,_,_⟩:=f.rows;have⟨f,a,b,d⟩:=h.rows;refine⟨f,a,b.alloc _,fun j r row l o=>?_⟩;have⟨a,f,b,g,i⟩:=d j r row l o;have d:=b.lt;exact⟨fun e=>by
   rcases e with e|e|e
   ·omega
   ·exact a (Or.inr (Or.inl e))
   ·exact a (Or.inr (Or.inr e)),f,b.keep (zn.alloc 0 w _),g,i.keep (zn.alloc 0 w _)⟩
theorem zkK:∀(l:List (U_×Bool)) (i:Nat) (p:qF) (k:Nat),ju i p l= .error k->i<k
 |[],i,p,k,h=>by simp[ju]at h
 |x::r,i,p,k,h=>by
  rw[ju]at h;split at h
  ·injection h with h;omega
  ·split at h
   ·injection h with h;omega
   ·rename_i q a
    have:=zkK r (i+1) q k h;omega
theorem zo4 {rg:List (Int×Int)}{k:Nat}(h:zao 0 rg=E k):zfb rg=k+3:=by unfold zfb;rw[h]
theorem znU {rg:List (Int×Int)}(h:zao 0 rg=O):zfb rg=0:=by unfold zfb;rw[h]
theorem zo5 (s:U_)(hs:2000<s.length)(w:H):
 C_ 27 #[gS ⟨s.toArray⟩] w fun e w'=>e=Xa (tp #[ag #[V_,V_],i_ 4,i_ 0])/\b_ w w':=by
 have a:(2000:Int)<s.length:=om;have a:=qR w (cl #[V_,V_] 73);have b:=c_ 0 a;go_enter func27,ntmps27
 go_wp2;exact zH (by simp[results,results27,go_sem]) rfl ⟨rfl,(qf _ _).alloc (zh _) _⟩
theorem read_any (s:U_)(hs:s.length<=2000)(w:H):
 C_ 27 #[gS ⟨s.toArray⟩] w fun e w'=>b_ w w'/\
  (
   (∃a b:Nat,JY s= .error (a,b)/\0<a/\e=Xa (tp #[ag #[V_,V_],i_ (a:Nat),i_ (b:Nat)]))\/
   ∃p c i m,JY s= .ok p/\e=Xa (tp #[ag #[i,m],i_ 0,i_ 0])/\DQ w' c p i m/\zbU (QW s).length p/\2+p.n<=(QW s).length):=by
 have c:¬(2000:Int)<(s.length:Int):=om;have u:Hid (JY s=match ju 0 qF.none (QW s)with
  |.error k=> .error (5,k)
  |.ok p=>if (QW s).length<2+p.n then .error (5,(QW s).length+1)else match zao 0 p.rg with
   |some l=> .error (6,l+3)
   |.none=> .ok p):=by
  rw[Hid];unfold JY;rw[zO om];rfl
 have f:=zf (fun W=>zlc s hs W);have F:Hid (∀k,ju 0 qF.none (QW s)= .error k->0<k):=fun k d=>by have:=zkK (QW s) 0 qF.none k d;omega
 obtain⟨h,hLL⟩:∃h,QW s=h:=⟨_,rfl⟩;rw[hLL]at u f F⊢;have o:b_ w (w.alloc (cl #[V_,V_] 73)):=(qf _ _).alloc (zh _) _;have c:=qR w (cl #[V_,V_] 73);have r:=c_ 0 c;have t:=c_ 1 c;have y:=ZK _ _ 0 _ _ c;have C:=ZK _ _ 1 _ _ c;go_enter func27,ntmps27
 go_wp2_with fail
 refine(f.out _).mono ?_;rintro e f ⟨c,x⟩;have q:=c.size;simp only[zL]at q;have z:=(c.cell (p:=(y_ w 0)) sp).trans r;have A:=(c.cell (p:=(y_ w 1)) sp).trans t;have M:=(c.frozen (p:=(y_ w 0)) sp).trans y;have N:=(c.frozen (p:=(y_ w 1)) sp).trans C;have y:=o.trans (c.mono sp);have t:=(zn.alloc 0 f (cl #[V_,V_] 73)).cell z;have C:=(zn.alloc 0 f (cl #[V_,V_] 73)).cell A;have R:=((zn.alloc 0 f (cl #[V_,V_] 73)).frozen z).trans M;have S:=((zn.alloc 0 f (cl #[V_,V_] 73)).frozen A).trans N;have o:((f.alloc (cl #[V_,V_] 73)).setCell (y_ w 0) (V_)).cell? (y_ w 1)=E (V_):=by rw[zA _ _ _ _ sp];exact C
 have q:(((f.alloc (cl #[V_,V_] 73)).setCell (y_ w 0) (V_)).setCell (y_ w 1) (V_)).cell? (y_ w 1)=E (V_):=zN _ _ _ o;have r:(((f.alloc (cl #[V_,V_] 73)).setCell (y_ w 0) (V_)).setCell (y_ w 1) (V_)).cell? (y_ w 0)=E (V_):=by
  rw[zA _ _ _ _ sp];exact zN _ _ _ t
 have c:b_ w (((f.alloc (cl #[V_,V_] 73)).setCell (y_ w 0) (V_)).setCell (y_ w 1) (V_)):=((y.alloc y.size _).setCell (p:=(y_ w 0)) (zh _) _).setCell (p:=(y_ w 1)) (zh _) _;rcases x with ⟨k,d,rfl⟩|⟨p,L,⟨I,rfl⟩|⟨P,i,m,rfl,D,x,J⟩⟩
 ·have m:=F.out k d;have K:¬(k:Int)=0:=om;have m:Hid (JY s= .error (5,k)):=by rw[Hid,u.out,d]
  go_wp2;exact zH (v:=tp #[ag #[V_,V_],i_ 5,i_ (k:Int)]) (by simp[results,results27,go_sem,q,r]) rfl ⟨c,Or.inl ⟨5,k,m.out,om,rfl⟩⟩
 ·have K:¬((h.length:Int)+1)=0:=om;have m:Hid (JY s= .error (5,h.length+1)):=by
   rw[Hid,u.out,L];simp only[I,zbu]
  go_wp2;exact zH (v:=tp #[ag #[V_,V_],i_ 5,i_ ((h.length:Int)+1)]) (by simp[results,results27,go_sem,q,r]) rfl ⟨c,Or.inl ⟨5,h.length+1,m.out,om,sp⟩⟩
 ·obtain⟨c,d,hvC⟩:∃c d,i=V c p.n d:=by
   rcases D.cols with ⟨k,i⟩|⟨_,_,i,_⟩
   ·exact⟨O,0,by rw[i,k]⟩
   ·exact⟨_,_,i⟩
  obtain⟨i,k,F⟩:=D.shapeR;subst hvC F;have F:0<h.length:=om;have Q:=x.n F;have F:p.rg.length=p.n:=by have:=x.g;omega
  have I:=D.moved;have D:=zf (znT f.heap.size p _ _ _ I Q.2 F x.bg);have F:Hid (JY s=match zao 0 p.rg with|some l=> .error (6,l+3)|.none=> .ok p):=by
   rw[Hid,u.out,L];simp only[show ¬h.length<2+p.n from P,zaK]
  go_wp2_with fail
  refine D.out.mono ?_;rintro e h ⟨rfl,D⟩;have u:=y.alloc y.size (cl #[V c p.n d,V i p.rows.length k] 73);have y:=u.trans (D.mono u.size);have u:=(zn.alloc 0 f (cl #[V c p.n d,V i p.rows.length k] 73)).trans (zn.of_below (B:=0) D);have t:=u.cell z;have C:=u.cell A;have R:=(u.frozen z).trans M;have S:=(u.frozen A).trans N;have u:=I.below D;have z:=u.box;obtain⟨_,_,_,_,_⟩:=z;have z:¬Own f.heap.size (V c p.n d) (V i p.rows.length k) w.heap.size:=by
   intro e;rcases e with e|e|e
   ·omega
   ·have:=J _ (Or.inr (Or.inl e));simp only[zL]at this;omega
   ·have:=J _ (Or.inr (Or.inr e));simp only[zL]at this;omega
  cases hwd:zao 0 p.rg with
  |some l=>
   have m:Hid (JY s= .error (6,l+3)):=by rw[Hid,F.out,hwd]
   rw[zo4 hwd];have K:¬((l:Int)+3)=0:=om;have o:(h.setCell (y_ w 0) (V_)).cell? (y_ w 1)=E (V_):=by rw[zA _ _ _ _ sp];exact C
   have q:((h.setCell (y_ w 0) (V_)).setCell (y_ w 1) (V_)).cell? (y_ w 1)=E (V_):=zN _ _ _ o;have r:((h.setCell (y_ w 0) (V_)).setCell (y_ w 1) (V_)).cell? (y_ w 0)=E (V_):=by
    rw[zA _ _ _ _ sp];exact zN _ _ _ t
   go_wp2;exact zH (v:=tp #[ag #[V_,V_],i_ 6,i_ ((l:Int)+3)]) (by simp[results,results27,go_sem,q,r]) rfl ⟨(y.setCell (p:=(y_ w 0)) (zh _) _).setCell (p:=(y_ w 1)) (zh _) _,Or.inl ⟨6,l+3,m.out,om,sp⟩⟩
  |none=>
   have m:Hid (JY s= .ok p):=by rw[Hid,F.out,hwd]
   rw[znU hwd];have l:(h.setCell (y_ w 0) (V c p.n d)).cell? (y_ w 0)=E (V c p.n d):=zN _ _ _ t;have o:(h.setCell (y_ w 0) (V c p.n d)).cell? (y_ w 1)=E (V_):=by rw[zA _ _ _ _ sp];exact C
   have q:((h.setCell (y_ w 0) (V c p.n d)).setCell (y_ w 1) (V i p.rows.length k)).cell? (y_ w 1)=E (V i p.rows.length k):=zN _ _ _ o;have r:((h.setCell (y_ w 0) (V c p.n d)).setCell (y_ w 1) (V i p.rows.length k)).cell? (y_ w 0)=E (V c p.n d):=by
    rw[zA _ _ _ _ sp];exact l
   have h:=zf ((u.set_other (g:=w.heap.size) (j:=0) (v:=V c p.n d) z t sp sp t sp).set_other (g:=w.heap.size) (j:=1) (v:=V i p.rows.length k) z o sp sp l sp);have l:=zf x;go_wp2;exact zH (v:=tp #[ag #[V c p.n d,V i p.rows.length k],i_ 0,i_ 0]) (by simp[results,results27,go_sem,q,r]) rfl ⟨(y.setCell (p:=(y_ w 0)) (zh _) _).setCell (p:=(y_ w 1)) (zh _) _,Or.inr ⟨p,f.heap.size,_,_,m.out,rfl,h.out,l.out,om⟩⟩
attribute [local go_sem] zD zW qJ
end

namespace T
open Go.RowKit
theorem zo2 (z:Int):Lib.itoa z=jL z 1:=by rw[jL,zQ rfl]
theorem told_len (zs:L_)(h:∀z∈zs,z.natAbs<10^40)(a:zs.length<=4):(ByteArray.mk (QF zs).toArray).size<=600:=by
 rw[zfg];have c:∀zs:L_,(∀z∈zs,z.natAbs<10^40)->(QF zs).length<=zs.length*100:=by
  intro zs;induction zs with
  |nil=>intro _;simp[QF]
  |cons z zs b=>
   intro h;have a:=b (fun y b=>h y (by simp[b]));have b:=zqA (q:=1) (K:=11) (zbr (h z sp) dc) dc;rw[<-zo2]at b;unfold QF at a⊢;rw[Qo,zM,qi,qi];omega
 have:=c zs h;omega
def headS (p:qF):U_:=zan++32::Lib.itoa (p.n:Int) ++ [10]++(zbB++QF p.mx ++ [10])
theorem itoa_nat (n:Nat):Lib.itoa (n:Int)=Lib.decDigits n:=by
 unfold Lib.itoa;rw[zO om];simp
theorem headS_bytes (p:qF):(⟨#[118,97,114,115,32]⟩:ByteArray)++⟨(Lib.decDigits p.n).toArray⟩++⟨#[10,109,97,120]⟩++⟨(QF p.mx).toArray⟩++⟨#[10]⟩=⟨(headS p).toArray⟩:=by
 have a:(_:ByteArray)=⟨([118,97,114,115,32]:U_).toArray⟩:=rfl;have b:(_:ByteArray)=⟨([10,109,97,120]:U_).toArray⟩:=rfl;have c:(⟨#[10]⟩:ByteArray)=⟨([10]:U_).toArray⟩:=rfl;rw[a,b,c,JW,JW,JW,JW];unfold headS;rw[itoa_nat];simp[zan,zbB]
