import Derived.Test.YthnopjedhcapmaaGreatDoorMvr1Z13
open Option renaming none->O,some->E
open Go.Value renaming slice->V,bool->G,pointer->pn,tuple->tp,int->it,agg->ag
open Go.Obj renaming cells->cl
open Go renaming World->H
open Go.Proofs.Tryz renaming prog->pg
open Go.Proofs.Tryz
open Go.Ending renaming returned->Xa
open Go.IntKind renaming i64->Xb
open Go.Addr renaming mk->Xd
set_option linter.unusedSimpArgs false
set_option linter.unusedVariables false
set_option maxHeartbeats 4000000
set_option maxRecDepth 100000
namespace Go.Proofs.YthnopjedhcapmaaGreatDoor
section
open Go.RowKit
theorem ziR:(Tryz.prog.info? 106).map (fun i=>(i.zero,i.size,i.bytes))=E (E (ag #[V_,G false,V_,i_ 0]),4,64):=kr
theorem zhM (n:Nat):(Builtin.zeroCells #[V_,G false,V_,i_ 0] n).toList.length=n*4/\∀v∈(Builtin.zeroCells #[V_,G false,V_,i_ 0] n).toList,v.oneCell'=true/\ZM v:=by
 refine⟨by simp[Builtin.zeroCells],fun v b=>?_⟩;simp only[Builtin.zeroCells,Array.toList_map,qP,Array.toList_range,Z8]at b;obtain⟨i,_,rfl⟩:=b;have b:i%4=0\/i%4=1\/i%4=2\/i%4=3:=om;show Value.oneCell' (#[V_,G false,V_,i_ 0]:W_)[i%4]! =true/\ZM (#[V_,G false,V_,i_ 0]:W_)[i%4]!
 rcases b with e|e|e|e<;>rw[e]<;>exact⟨rfl,fun m e=>by cases e⟩
theorem zr6 {P:Program}{t:TypeId}{z:Value}{b:TypeInfo}(hi:P.info? t=E b)(d:b.zero=E z):∀w,(zeroValue t).run P w= .ok z w:=by
 intro w;simp[zeroValue,typeInfo,hi,d]
theorem zli (w w':H)(b:TypeId)(g o n cap:Nat)(d:0<n)(h:(storeCells ⟨g,o,O⟩ (Builtin.zeroCells #[V_,G false,V_,i_ 0] n).toList).run pg w= .ok () w'):
 (Builtin.clear_ #[120] b #[V (E (Xd g o O)) n cap]).run pg w= .ok (tp #[]) w':=by
 have⟨_,b,e,_,_⟩:=Zn ziR;have d:=zr6 b e;obtain⟨m,rfl⟩:∃m,n=m+1:=⟨n-1,om⟩;simp[Builtin.clear_,run_underlying underlying120,d,Value.cells,h]
theorem zkh (B:Nat)(w:H)(u gs:Nat)(a:S_)(aj given:Int)(ai cv:Value)(c:CT)(ets:List ET)(hM:LgM w u gs a aj given ai cv c ets)(rv:Value)(rts:List NT)(y:Grw B 106 4 w rv (rts.map NT.cells))(hn:rts.length<=1000)(ad:∀b,rv.ownBlock=E b->b≠u/\b≠gs):
 C_ 184 #[rv,.func (.func 185) #[] #[p_ u 0]] w fun e w'=>∃a5,e=Xa a5/\Grw B 106 4 w' a5 ((rts.filter fun t=>!lgP given ets t).map NT.cells)/\(∀b,a5.ownBlock=E b->rv.ownBlock=E b)/\Wr (fun b=>rv.ownBlock=E b) w w':=by
 have aq:=zf (zle w u gs a aj given ai cv c ets hM rv rts y.list hn);have HM:=zf (fun W (hW:Wr (fun b=>rv.ownBlock=E b) w W)=>hM.wr hW (fun b d=>⟨(ad b d).1,(ad b d).2,fun e=>absurd (e.one (y.type b d).1) dc⟩));have Y:=zf y;obtain⟨ao,q,rfl⟩:=y.shape;rw[zm]at *;go_enter func184,ntmps184
 go_wp2_with fail
 refine aq.out.mono ?_;rintro e w1 ⟨⟨i,t,rfl,ht,f,a3⟩|⟨rfl,a3⟩,a2⟩
 ·have aE:=jQ ht;have ak:Hid (DelI rts rts (fun t=>!lgP given ets t) i (i+1)):=zpj ht (by simp[f]) (fun j I hj hs=>by simp[a3 j I hj hs]);have r:=Xf a2;obtain⟨g,rfl⟩:∃g,ao=E (Xd g 0 O):=by
   obtain⟨_,h1|⟨g,_,a9,o,_⟩⟩:=Y.out.own
   ·have:=h1.2;rw[zm]at this;omega
   ·simp only[qp]at o;exact⟨g,o.1⟩
  have an:=zf (Y.out.ext r);have HU:Hid (Wr (fun b=>b=g) w w1):=Xg r;have a7:Hid (∀b,(V (E (Xd g 0 O)) rts.length q).ownBlock=E b↔b=g):=fun b=>by simp[Value.ownBlock,eq_comm]
  go_wp2;go_loopw [5,6] (fun iv jv wr=>∃(i j:Nat) (L:List NT),iv=i_ i/\jv=i_ j/\j<=rts.length/\i<j/\Hid (DelI rts L (fun t=>!lgP given ets t) i j)/\Hid (Grw B 106 4 wr (V (E (Xd g 0 O)) rts.length q) (L.map NT.cells))/\Hid (Wr (fun b=>b=g) w wr)) (fun _ jv _=>(rts.length-intOf jv).toNat)
  case atStart=>exact⟨i,i+1,rts,rfl,by go_num,om,om,ak,an,HU⟩
  case round=>
   obtain⟨i,j,L,rfl,rfl,_,aA,m,l,s⟩:=hrel;by_cases ae:j<rts.length
   ·have a1:=del_at m.out ae;have af:=zg ae;have⟨_,off,hE,_,ax⟩:=l.out.list.recs.at (by intro e;rw[QB]at e;rw[e]at a1;simp at a1);simp only[qN,Jg,zel]at hE;obtain⟨rfl,rfl⟩:=hE;have z:=ax j _ (by rw[zR,a1];rfl);have ar:=zf (fun f=>zrc m.out aA af f);have au:=zf (fun f=>zrb m.out af f);generalize rts[j]=t at *;have HC:=zf (fun W (hx:Ext wr W)=>((HM.out wr (s.out.mono (fun b d=>(a7.out b).2 d))).ext hx).call t);have a8:=zf (fun W (hx:Ext wr W)=>zr3 (l.out.ext hx) (show i<L.length by rw[m.out.1];omega) t);have⟨⟨fa,x,v⟩,⟨K,⟨J,N,M⟩⟩,D⟩:=t;have c0:=z 0 _ rfl;have c1:=z 1 _ rfl;have c2:=z 2 _ rfl;have c3:=z 3 _ rfl;rw[qV]at c0;rw[qt]at c0 c1 c2 c3;simp only[NT.fv,WT.sv,NT.val]at c0 c1 c2 c3 HC a8;have⟨ah,r⟩:=new1 wr (cl #[V fa x v,G K,V J N M,i_ D] 106);go_wp2_with fail
    generalize World.alloc _ _=wq at *;refine(HC.out wq r).mono ?_;rintro e h ⟨rfl,ab⟩;have p:=r.trans (Xf ab);have F:=((Xf ab).block _ (zd.1 ah).1).trans ah;have d0:=c_ 0 F;have d1:=c_ 1 F;have d2:=c_ 2 F;have d3:=c_ 3 F;cases f:lgP given ets ⟨(fa,x,v),⟨K,J,N,M⟩,D⟩with
    |true=>
     have X:=zf (au.out (by simp[f]));have Z:=zf (l.out.ext p);have a0:Hid (Wr (fun b=>b=g) w h):=s.out.trans (Xg p);go_wp2;go_roundw
     case rel=>exact⟨_,_,_,_,_,_,_,_,_,_,_,_,_,_,_,_,_,_,_,_,_,_,_,⟨i,j+1,L,rfl,by go_num,om,om,X,Z,a0⟩,rfl⟩
     case measure=>simp[intOf];omega
    |false=>
     have X:=zf (ar.out (by simp[f]));have Z:=zf (a8.out h p);have a0:Hid (Wr (fun b=>b=g) w ((((h.setCell ⟨g,i*4,O⟩ (V fa x v)).setCell ⟨g,i*4+1,O⟩ (G K)).setCell ⟨g,i*4+2,O⟩ (V J N M)).setCell ⟨g,i*4+3,O⟩ (i_ D))):=((((s.out.trans (Xg p)).trans (zv (U:=fun b=>b=g) rfl _)).trans (zv (U:=fun b=>b=g) rfl _)).trans (zv (U:=fun b=>b=g) rfl _)).trans (zv (U:=fun b=>b=g) rfl _);have a4:i<L.length:=by rw[m.out.1];omega
     have aw:=zg a4;have⟨_,_,aa,_,ay⟩:=(l.out.ext p).list.recs.at (by intro e;rw[QB]at e;rw[e]at a4;simp at a4);simp only[qN,Jg,zel]at aa;obtain⟨rfl,rfl⟩:=aa;have A:=ay i _ (by rw[zR,aw];rfl);generalize L[i]=I at *;obtain⟨⟨_,sl,_⟩,⟨_,⟨_,_,_⟩⟩,_⟩:=I;have b0:=A 0 _ rfl;have b1:=A 1 _ rfl;have b2:=A 2 _ rfl;have b3:=A 3 _ rfl;rw[qV]at b0;rw[qt]at b0 b1 b2 b3;simp only[NT.fv,WT.sv]at b0 b1 b2 b3;obtain⟨-,-,a9,C,-⟩:=(l.out.ext p).parts;have f0:h.frozen? ⟨g,i*4,O⟩=false:=Xh C;have f1:h.frozen? ⟨g,i*4+1,O⟩=false:=Xh C;have f2:h.frozen? ⟨g,i*4+2,O⟩=false:=Xh C;have f3:h.frozen? ⟨g,i*4+3,O⟩=false:=Xh C;go_wp2;go_roundw
     case rel=>exact⟨_,_,_,_,_,_,_,_,_,_,_,_,_,_,_,_,_,_,_,_,_,_,_,⟨i+1,j+1,L.set i ⟨(fa,x,v),⟨K,J,N,M⟩,D⟩,by go_num,by go_num,om,om,X,Z,a0⟩,rfl⟩
     case measure=>simp[intOf];omega
   ·obtain rfl:j=rts.length:=om;have al:=zf (zr4 m.out);obtain⟨R,aB,aC,az⟩:=l.out.cleared dc (show i<=rts.length by omega) (Builtin.zeroCells #[V_,G false,V_,i_ 0] (rts.length-i)).toList (zhM _).1 (fun a6 o=>((zhM _).2 a6 o).1) (fun a6 o=>((zhM _).2 a6 o).2);have aD:∀ty,(Builtin.clear_ #[120] ty #[V (E ⟨g,i*4,O⟩) (rts.length-i) (q-i)]).run pg wr= .ok (tp #[]) R:=fun ty=>zli wr R ty g (i*4) _ _ om aB
    obtain⟨-,-,a9,-,_,-⟩:=l.out.parts;have ap:Hid (Grw B 106 4 R (V (E (Xd g 0 O)) i q) ((rts.filter fun t=>!lgP given ets t).map NT.cells)):=by
     rw[Hid,<-al.out,List.map_take];exact az
    have av:Hid (Wr (fun b=>(V (E (Xd g 0 O)) rts.length q).ownBlock=E b) w R):=(s.out.trans aC).mono (fun b d=>(a7.out b).2 d);go_wp2;go_ret;exact⟨_,rfl,ap.out,fun b d=>by simpa[Value.ownBlock]using d,av.out⟩
 ·have HR:Hid (rts.filter (fun t=>!lgP given ets t)=rts):=by
   rw[Hid,List.filter_eq_self];intro I hs;obtain⟨j,hj,rfl⟩:=qM hs;rw[a3 j _ (zg hj)];rfl
  go_wp2;go_ret;exact⟨_,rfl,by rw[HR.out];exact Y.out.ext (Xf a2),fun b d=>d,Xg (Xf a2)⟩
attribute [local go_sem] zD zW qJ
theorem zrf {ets:List ET}{k:Cor}(b:ets.length=k.edges.length)(h:∀(i:Nat) (t:ET) (e:Edg),ets[i]? =E t->k.edges[i]? =E e->t.n.num=(e.num:Int))(m:Nat):(ets.any fun x=>decide (x.n.num=(m:Int)))=restsOn k m:=by
 unfold restsOn;rw[zcr,QR,QR];constructor
 ·rintro⟨x,g,d⟩;obtain⟨i,f,rfl⟩:=qM g;have b:i<k.edges.length:=om;refine⟨k.edges[i],zJ b,?_⟩;have:=h i _ _ (zg f) (zg b);simp only[Z9]at d⊢;omega
 ·rintro⟨x,g,d⟩;obtain⟨i,f,rfl⟩:=qM g;have b:i<ets.length:=om;refine⟨ets[i],zJ b,?_⟩;have:=h i _ _ (zg b) (zg f);simp only[Z9]at d⊢;omega
theorem zis {d e:Type}{p:d->Bool}{q:e->Bool}{R:d->e->Prop}:∀{l:List d} {m:List e},l.length=m.length->(∀(i:Nat) (a:d) (b:e),l[i]? =E a->m[i]? =E b->R a b/\p a=q b)->(l.filter p).length=(m.filter q).length/\∀(i:Nat) (a:d) (b:e),(l.filter p)[i]? =E a->(m.filter q)[i]? =E b->R a b
 |[],[],_,_=>⟨rfl,fun i a b h=>by simp at h⟩
 |[],_::_,h,_=>by simp at h
 |_::_,[],h,_=>by simp at h
 |a::l,b::m,h,f=>by
  have⟨o,r⟩:=f 0 a b rfl rfl;obtain⟨g,j⟩:=zis (by simpa using h) (fun i x y d e=>f (i+1) x y (by simpa using d) (by simpa using e));rw[Qz,Qz,r];cases hq:q b with
  |false=>
   simp only[za3,zaK];exact⟨g,j⟩
  |true=>
   simp only[zbu];refine⟨by simp[g],fun i x y d e=>?_⟩;cases i with
   |zero=>
    simp only[zcR,qN]at d e;subst d e;exact o
   |succ i=>exact j i x y (by simpa using d) (by simpa using e)
section

variable {w:World} {B gs n given:Nat} {aims:L_} {a:S_} {c:CT} {rv cv:Value} {k:Cor} {ets:List ET} {rows:List qO} {rts:List NT} {ls:List Zy} {lts:List LT}
theorem SrM.lets (h:SrM w B gs n given aims a c rv cv k ets rows rts ls lts):(rts.filter fun t=>!lgP given ets t).length=(jw k given rows).length/\∀(i:Nat) (t:NT) (r:qO),(rts.filter fun t=>!lgP given ets t)[i]? =E t->(jw k given rows)[i]? =E r->zaP w t r:=by
 refine zis h.rlen (fun i t r b e=>?_);have d:=h.row i t r b e;refine⟨d,?_⟩;unfold lgP;rw[d.2.2,zrf h.cor.len (fun i t e b d=>(h.cor.edge i t e b d).1.2.2) r.2];congr 2
 rw[zaI];omega
theorem zpn (h:SrM w B gs n given aims a c rv cv k ets rows rts ls lts)(y:rows.length<=1000)(g:k.edges.length<=1000):
 C_ 108 #[p_ gs 0] w fun e w'=>(∃v,e=Xa v)/\(∃o,SrM w' B gs n given aims a c o cv k ets (jw k given rows) (rts.filter fun t=>!lgP given ets t) ls lts/\∀b,o.ownBlock=E b->rv.ownBlock=E b)/\Wr (fun b=>b=gs\/rv.ownBlock=E b) w w':=by
 have u:=zf h;have m:=(zd.1 h.box).1;obtain⟨s,q⟩:=new1 w (cl #[p_ gs 0] 97);have i:rts.length<=1000:=by rw[h.rlen];exact y
 have p:=zf (fun W (j:Ext w W) (d:W.cell? (y_ w 0)=E (p_ gs 0))=>
  have f:=h.ext j;zkh B W w.heap.size gs a n given rv cv c ets ⟨d,f.box,f.cor.list,by rw[h.cor.len];exact g⟩ rv rts f.rgrw i (fun b d=>⟨fun e=>by have:=(h.rgrw.type b d).1.lt;omega,(h.rvgs b d).1⟩))
 obtain⟨i,l,rfl⟩:=h.rgrw.shape;obtain⟨L,M,rfl⟩:=h.lgrw.shape;rw[zm]at *;rw[zm]at *;obtain⟨F,K,I⟩:=a;obtain⟨⟨D,J,ac⟩,⟨Y,ol,Z⟩,⟨pa,pl,pc⟩,⟨N,X,R⟩⟩:=c;have g:=zf (fun W (j:Ext w W)=>(j.block _ m).trans h.box);simp only[jh,sl3]at g;refine Q0 func108 ntmps108 (h:=?_);have f:=jR;gi_wp2;generalize World.alloc _ _=j at *;have r:∀b,(V i rts.length l).ownBlock=E b->b≠gs/\b<w.heap.size:=fun b d=>⟨(u.out.rvgs b d).1,(u.out.rgrw.type b d).1.lt⟩
 have z:=zf (fun W (f:Wr (fun b=>(V i rts.length l).ownBlock=E b) j W)=>
  have x:=f.some s (fun e=>by have:=r _ e;omega);have m:=f.some (g.out j q) (fun e=>(r _ e).1 rfl);Xc (c_ 0 x) (c_ 3 m))
 have s:=zf (fun W (f:Wr (fun b=>(V i rts.length l).ownBlock=E b) j W)=>(f.some (g.out j q) (fun e=>(r _ e).1 rfl)));refine zeB 9 (S:=fun W=>W.cell? (y_ w 0)=E (p_ gs 0)/\W.cell? (Xd gs 3 O)=E (V i rts.length l)) hm (z.out j (Xj _ _)) (h:=fun A=>?_);refine tkl [0,1,2,3,4,5] ?_;refine rcl 6 (p.out _ q.drew A.1) ?_;rintro e g ⟨o,rfl,x,C,p⟩;have f:=(Xg (Xe j).drew).trans p;have m:=s.out g f;obtain⟨p,s,j⟩:=x.shape;rw[zm]at j;subst j;refine bk (z.out _ f) fun A=>?_
 refine tkl [7,8] ?_;refine zV kr (zdB (h:=?_)) _;have j:=c_ 3 m;have j:=Xh (j:=3) m;have j:Wr (fun b=>b=gs) g (g.setCell (Xd gs 3 O) (V p (rts.filter fun t=>!lgP given ets t).length s)):=zv (U:=fun b=>b=gs) rfl _;have A:=qG (i:=3) (v:=V p (rts.filter fun t=>!lgP given ets t).length s) m;have z:Hid ((∃o,SrM (g.setCell (Xd gs 3 O) (V p (rts.filter fun t=>!lgP given ets t).length s)) B gs n given aims (F,K,I) ⟨(D,J,ac),(Y,ol,Z),(pa,pl,pc),(N,X,R)⟩ o (V L lts.length M) k ets (jw k given rows) (rts.filter fun t=>!lgP given ets t) ls lts/\∀b,o.ownBlock=E b->(V i rts.length l).ownBlock=E b)/\Wr (fun b=>b=gs\/(V i rts.length l).ownBlock=E b) w (g.setCell (Xd gs 3 O) (V p (rts.filter fun t=>!lgP given ets t).length s))):=by
  have i:=u.out.ext q;have p:=i.rvOff;obtain⟨s,u⟩:=i.lets;have o:∀b,b=gs->Off g b:=fun b d=>by
   rw[d];have l:qQ g gs 123:=⟨_,_,m⟩;exact⟨⟨⟨fun e=>absurd (e.one l) dc,zE m (by intro g g;simp at g;rcases g with rfl|rfl|rfl|rfl|rfl|rfl|rfl|rfl|rfl<;>(intro n e;cases e))⟩,fun e=>absurd (e.one l) dc⟩,fun e=>absurd (e.one l) dc⟩
  refine⟨⟨_,⟨A,i.old,?_,?_,s,?_,fun s t F l y=>?_,i.llen,?_,fun s t D l A=>?_⟩,C⟩,?_⟩;·exact(i.ord.wr f (fun b d=>(p b d).1.1)).wr j (fun b d=>(o b d).1.1)
  ·exact(i.cor.wr f (fun b d=>(p b d).1)).wr j (fun b d=>(o b d).1)
  ·refine x.same j.size (fun g m=>j.block g (x.type g m).1.lt (fun e=>?_));exact(r g (C g m)).1 e
  ·exact((u s t F l y).wr f (fun b d=>(p b d).1.1)).wr j (fun b d=>(o b d).1.1)
  ·have r:=i.lgrw;refine r.same (zF f.size j.size) (fun g m=>?_);have u:=i.cvgs g m;rw[j.block g (zK (r.type g m).1.lt f.size) u.1,f.block g (r.type g m).1.lt u.2]
  ·exact((i.line s t D l A).wr f (fun b d=>⟨(p b d).2,(p b d).1.1.2⟩)).wr j (fun b d=>⟨(o b d).2,(o b d).1.1.2⟩)
  ·exact(((Xg q).trans (f.mono fun b d=> .inr d)).trans (j.mono fun b d=> .inl d))
 go_simp;gi_wp2;exact⟨_,qI rfl _ _ _,⟨_,rfl⟩,z.out⟩
end

end

section
open Go.RowKit
attribute [local go_sem] zD zW qJ
theorem zpo:(Tryz.prog.info? 109).map (fun i=>(i.zero,i.size,i.bytes))=E (E (ag #[V_,V_]),2,48):=kr
section

variable {w W A8:World} {B gs n given:Nat} {aims:L_} {a:S_} {c:CT} {rv cv:Value} {k:Cor} {ets:List ET} {rows:List qO} {rts:List NT} {ls:List Zy} {lts:List LT} {g8 cap8:Nat}
theorem zhN {d e:Type}{R:d->e->Prop}{l:List d}{m:List e}{x:d}{y:e}(g:l.length=m.length)(h:∀(i:Nat) (a:d) (b:e),l[i]? =E a->m[i]? =E b->R a b)(j:R x y):∀(i:Nat) (a:d) (b:e),(l ++ [x])[i]? =E a->(m ++ [y])[i]? =E b->R a b:=by
 intro i a b d e;by_cases f:i<l.length
 ·rw[zS f]at d;rw[zS om]at e;exact h i a b d e
 ·have f:i=l.length:=by
   have:=jQ d;rw[zM,ZH]at this;omega
  rw[f,zG (zh _),Qn]at d;rw[f,g,zG (zh _),Qn]at e;have f:x=a:=by simpa using d
  have d:y=b:=by simpa using e
  rw[<-f,<-d];exact j
theorem zpp {w:H}{gs:Nat}{a:S_}{n given:Int}{rv cv:Value}{c:CT}(q:w.heap[gs]? =E (cl (jh a n given rv c cv) 123))(g:ZM rv)(f:ZM cv):∀b,b=gs->Off w b:=fun b d=>by
 rw[d];have d:qQ w gs 123:=⟨_,_,q⟩;exact⟨⟨⟨fun e=>absurd (e.one d) dc,zE q (zpi g f)⟩,fun e=>absurd (e.one d) dc⟩,fun e=>absurd (e.one d) dc⟩
theorem SrM.pushLine (h:SrM w B gs n given aims a c rv cv k ets rows rts ls lts)(y:Ext w W){t:LT}{l:Zy}(r:za7 W t l)
 (own:A8.ownsRow B 109 2 (V (E (Xd g8 0 O)) (lts.length+1) cap8) (lts.length+1) ((lts.map LT.cells).flatten++t.cells)) (grow:W.grownBy A8 cv.ownBlock) (p:cv.ownBlock=E g8\/W.heap.size<=g8) (dig:qK A8 g8):
 SrM (A8.setCell (Xd gs 8 O) (V (E (Xd g8 0 O)) (lts.length+1) cap8)) B gs n given aims a c rv (V (E (Xd g8 0 O)) (lts.length+1) cap8) k ets rows rts (ls ++ [l]) (lts ++ [t])/\Wr (fun b=>b=gs\/cv.ownBlock=E b) w (A8.setCell (Xd gs 8 O) (V (E (Xd g8 0 O)) (lts.length+1) cap8)):=by
 have e:=h.ext y;have f:=Qh grow (fun b d=>d);have i:=f.some e.box (fun o=>(e.cvgs gs o).1 rfl);have g:Wr _ A8 (A8.setCell (Xd gs 8 O) (V (E (Xd g8 0 O)) (lts.length+1) cap8)):=zv (U:=fun b=>b=gs) rfl _;have m:=e.cvOff;have j:=zpp i (zb0 e.rgrw) (zb0 e.lgrw);have q:=(zd.1 e.box).1;have z:g8≠gs:=by
  rintro rfl;rcases p with o|o
  ·exact(e.cvgs _ o).1 rfl
  ·omega
 have p:A8.ownsRow B 109 2 (V (E (Xd g8 0 O)) ((lts.map LT.cells).length+1) cap8) ((lts.map LT.cells).length+1) ((lts.map LT.cells).flatten++t.cells):=by rw[zm];exact own
 have q:=e.lgrw.more rfl p dig;rw[zm]at q;refine⟨⟨qG i,e.old,?_,?_,e.rlen,?_,fun u t C s A=>?_,by simp[e.llen],?_,?_⟩,?_⟩;·exact(e.ord.wr f (fun b d=>(m b d).1.1)).wr g (fun b d=>(j b d).1.1)
 ·exact(e.cor.wr f (fun b d=>(m b d).1)).wr g (fun b d=>(j b d).1)
 ·refine e.rgrw.same (zF f.size g.size) (fun i p=>?_);have x:=e.rvgs i p;rw[g.block i (zK (e.rgrw.type i p).1.lt f.size) x.1,f.block i (e.rgrw.type i p).1.lt x.2]
 ·exact((e.row u t C s A).wr f (fun b d=>(m b d).1.1)).wr g (fun b d=>(j b d).1.1)
 ·rw[Z6];refine q.same g.size (fun i p=>?_);have o:g8=i:=by simpa[Value.ownBlock]using p
  subst o;exact g.block g8 (q.type g8 rfl).1.lt z
 ·refine zhN e.llen (fun u t l s r=>?_) ?_;·exact((e.line u t l s r).wr f (fun b d=>⟨(m b d).2,(m b d).1.1.2⟩)).wr g (fun b d=>⟨(j b d).2,(j b d).1.1.2⟩)
  ·exact(r.wr f (fun b d=>⟨(m b d).2,(m b d).1.1.2⟩)).wr g (fun b d=>⟨(j b d).2,(j b d).1.1.2⟩)
 ·exact((Xg y).trans (f.mono fun b d=> .inr d)).trans (g.mono fun b d=> .inl d)
theorem SrM.pushRow (h:SrM w B gs n given aims a c rv cv k ets rows rts ls lts)(x:Ext w W){t:NT}{r:qO}(q:zaP W t r)
 (own:A8.ownsRow B 106 4 (V (E (Xd g8 0 O)) (rts.length+1) cap8) (rts.length+1) ((rts.map NT.cells).flatten++t.cells)) (grow:W.grownBy A8 rv.ownBlock) (o:rv.ownBlock=E g8\/W.heap.size<=g8) (dig:qK A8 g8):
 SrM (A8.setCell (Xd gs 3 O) (V (E (Xd g8 0 O)) (rts.length+1) cap8)) B gs n given aims a c (V (E (Xd g8 0 O)) (rts.length+1) cap8) cv k ets (rows ++ [r]) (rts ++ [t]) ls lts/\Wr (fun b=>b=gs\/rv.ownBlock=E b) w (A8.setCell (Xd gs 3 O) (V (E (Xd g8 0 O)) (rts.length+1) cap8)):=by
 have e:=h.ext x;have f:=Qh grow (fun b d=>d);have i:=f.some e.box (fun j=>(e.rvgs gs j).1 rfl);have g:Wr _ A8 (A8.setCell (Xd gs 3 O) (V (E (Xd g8 0 O)) (rts.length+1) cap8)):=zv (U:=fun b=>b=gs) rfl _;have m:=e.rvOff;have l:=zpp i (zb0 e.rgrw) (zb0 e.lgrw);have p:=(zd.1 e.box).1;have y:g8≠gs:=by
  rintro rfl;rcases o with j|j
  ·exact(e.rvgs _ j).1 rfl
  ·omega
 have o:A8.ownsRow B 106 4 (V (E (Xd g8 0 O)) ((rts.map NT.cells).length+1) cap8) ((rts.map NT.cells).length+1) ((rts.map NT.cells).flatten++t.cells):=by rw[zm];exact own
 have p:=e.rgrw.more rfl o dig;rw[zm]at p;refine⟨⟨qG i,e.old,?_,?_,by simp[e.rlen],?_,?_,e.llen,?_,fun u t z s q=>?_⟩,?_⟩;·exact(e.ord.wr f (fun b d=>(m b d).1.1)).wr g (fun b d=>(l b d).1.1)
 ·exact(e.cor.wr f (fun b d=>(m b d).1)).wr g (fun b d=>(l b d).1)
 ·rw[Z6];refine p.same g.size (fun i o=>?_);have j:g8=i:=by simpa[Value.ownBlock]using o
  subst j;exact g.block g8 (p.type g8 rfl).1.lt y
 ·refine zhN e.rlen (fun u t r s j=>?_) ?_;·exact((e.row u t r s j).wr f (fun b d=>(m b d).1.1)).wr g (fun b d=>(l b d).1.1)
  ·exact(q.wr f (fun b d=>(m b d).1.1)).wr g (fun b d=>(l b d).1.1)
 ·refine e.lgrw.same (zF f.size g.size) (fun i o=>?_);have j:=e.cvgs i o;rw[g.block i (zK (e.lgrw.type i o).1.lt f.size) j.1,f.block i (e.lgrw.type i o).1.lt j.2]
 ·exact((e.line u t z s q).wr f (fun b d=>⟨(m b d).2,(m b d).1.1.2⟩)).wr g (fun b d=>⟨(l b d).2,(l b d).1.1.2⟩)
 ·exact((Xg x).trans (f.mono fun b d=> .inr d)).trans (g.mono fun b d=> .inl d)
end

end

section
open Go.RowKit
attribute [local go_sem] zD zW qJ
section

variable {w:World} {B gs n given:Nat} {aims:L_} {a:S_} {c:CT} {rv cv:Value} {k:Cor} {ets:List ET} {rows:List qO} {rts:List NT} {ls:List Zy} {lts:List LT}
theorem zlj (h:SrM w B gs n given aims a c rv cv k ets rows rts ls lts)(hr:rows.length<=1000)(he:k.edges.length<=1000)(hl:ls.length<=100000)(hB:B<=w.heap.size)(t:JG)(r:qO)(l:Zy)(k':Cor)(aI:List ET)(ht:zcH w aims t r l k' aI):
 C_ 50 #[p_ gs 0,t.val] w fun e w'=>(∃v,e=Xa v)/\(∃aA ao,SrM w' B gs n given aims a c aA ao k ets (jw k given rows ++ [r]) ((rts.filter fun t=>!lgP given ets t) ++ [t.n]) (ls ++ [l]) (lts ++ [t.l])/\∀b,aA.ownBlock=E b\/ao.ownBlock=E b->(rv.ownBlock=E b\/cv.ownBlock=E b)\/w.heap.size<=b)/\Wr (fun b=>b=gs\/rv.ownBlock=E b\/cv.ownBlock=E b) w w':=by
 obtain⟨i0,aM,aR,aS,aT⟩:=Zn zpo;obtain⟨j0,aN,aU,aV,aW⟩:=Zn ziR;obtain⟨o,p,rfl⟩:=h.lgrw.shape;rw[zm]at *;obtain⟨n0,x0⟩:=new1 w (cl t.cells 116);have ai:=zf (zpn (h.ext x0) hr he);have aO:=h.llen;have ax:=fun b d=>(h.rgrw.type b d).1.lt
 have aL:=fun b d=>(h.lgrw.type b d).1.lt
 have aZ:=(zd.1 h.box).1;have aP:(rts.filter fun t=>!lgP given ets t).length<=1000:=zF (jB _ _) (by rw[h.rlen];exact hr);have ad:=zf (fun W (j:Wr (fun b=>b=gs\/rv.ownBlock=E b) (w.alloc (cl t.cells 116)) W)=>(ht.ext x0).wr j (fun b d=>by
  rcases d with e|e
  ·exact(h.ext x0).off b e
  ·exact(h.ext x0).rvOff b e))
 obtain⟨⟨⟨fa,R,N⟩,⟨tb,ta,tl,tc⟩,nn⟩,⟨⟨va,vl,vc⟩,⟨qa,ql,qc⟩⟩,⟨⟨_,_,_⟩,⟨_,_,_⟩,⟨_,_,_⟩,⟨_,_,_⟩⟩⟩:=t;simp only[JG.val,JG.cells,NT.fv,WT.sv,LT.ov,LT.pv,sl3]at *;clear h ht;refine Q0 func50 ntmps50 (h:=?_);gi_wp2;generalize World.alloc _ _=w0 at *;refine(zq.2 ai.out).mono ?_;rintro e g ⟨⟨_,rfl⟩,⟨_,U,X⟩,Y⟩;have ar:=ad.out g Y;have m0:=Y.some n0 (fun e=>by rcases e with e|e;omega;have:=ax _ e;omega);obtain⟨C,D,rfl⟩:=U.rgrw.shape;rw[zm]at U X;have z:=zf U;have ae:=zf ar;have a1:=U.box;obtain⟨_,_,_⟩:=a;obtain⟨⟨_,_,ac⟩,⟨_,_,_⟩,⟨_,_,_⟩,⟨_,_,_⟩⟩:=c;simp only[jh,sl3]at a1;have b1:=Y.size;have b3:=(zd.1 n0).1;have a3:∀b,(V o lts.length p).ownBlock=E b->b≠gs/\b<w.heap.size:=fun b d=>⟨(z.out.cvgs b d).1,aL b d⟩
 have I:=zf (fun W (j:Wr (fun b=>(V o lts.length p).ownBlock=E b) g W)=>
  have x:=j.some m0 (fun e=>by have:=a3 _ e;omega);have qS:=j.some a1 (fun e=>(a3 _ e).1 rfl);Xc (c_ 8 qS) (Xc (c_ 4 x) (c_ 5 x)))
 have ah:=zf (fun W (j:Wr (fun b=>(V o lts.length p).ownBlock=E b) g W)=>(Xh (j.some a1 (fun e=>(a3 _ e).1 rfl)):W.frozen? (Xd gs 8 O)=false));have aE:=zf m0;have y:Ext g (g.drew.alloc (cl #[V va vl vc,V qa ql qc] 109)):=(Xe g).drew.alloc _;have a9:=(z.out.lgrw.ext y).own;rw[zm]at a9;have av:=(z.out.lgrw.ext y).dig;have b0:lts.length<=100000:=om;have aj:=zf (fun(A8:H) (g8 cap8:Nat) own grow s dig=>z.out.pushLine (A8:=A8) (g8:=g8) (cap8:=cap8) (t:=⟨(va,vl,vc),(qa,ql,qc)⟩) y (ae.out.line.ext y) own grow s dig);have aH:Hid (Wr (fun b=>b=gs\/rv.ownBlock=E b\/(V o lts.length p).ownBlock=E b) w g):=(Xg x0).trans (Y.mono fun b d=>by rcases d with e|e;exact .inl e;exact .inr (.inl e));clear U ar m0 a1 aO Y ai ad;gi_wp2;refine zeB 11 (S:=fun W=>W.cell? (Xd gs 8 O)=E (V o lts.length p)/\W.cell? (y_ w 4)=E (V va vl vc)/\W.cell? (y_ w 5)=E (V qa ql qc)) hm (I.out g (Xj _ _)) (h:=fun u=>?_);refine tkl [0,1,2,3,4,5,6] ?_;refine rd1 7 fun K i=>?_;go_simp;refine i.out _ _ (I.out _ (Xg y)) (h:=fun u=>?_);clear i K;refine rd1 8 fun K i=>?_;refine QM _ rfl (.tmp 10) (.tmp 13) 121 rfl B 109 i0 (ag #[V_,V_]) 2 48 underlying121 aM aR aS aT rfl dc (V o lts.length p) lts.length (lts.map LT.cells).flatten rfl a9 (y_ g 0) 1 1 [V va vl vc,V qa ql qc] rfl rfl (rec_new g.drew [V va vl vc,V qa ql qc] 109) (by intro a0 f;simp only[zI,zY,Zp]at f;rcases f with rfl|rfl<;>rfl) om mo om so (g.heap.size+1) sp (by intro a0 f;simp[Value.cells]at f;rcases f with rfl|rfl<;>(intro n e;cases e)) (by intro a0 f;simp only[zI,zY,Zp]at f;rcases f with rfl|rfl<;>(intro n e;cases e)) av ?_;intro g8 cap8 A8 ay a6 s b4 ap;have x8:=(Xg y).trans (Qh a6 (fun aJ hg=>hg));have HF:=zf (aj.out A8 g8 cap8 ay a6 (s.imp id (fun e=>so)) ap);have s8:=(I.out _ x8).1;have aB:=zf s;clear ay a6 s ap;refine i.out _ _ (I.out _ x8) (h:=fun u=>?_);clear i K;have f8:=ah.out _ x8;refine tkl [9,10] ?_;refine zV kr (zdB (h:=?_)) _;go_simp;clear u s8 f8;obtain⟨a8,Z⟩:=HF.out;have au:=ae.out.row.wr Z (fun b d=>by
  rcases d with e|e
  ·exact(z.out.off b e).1.1
  ·exact(z.out.cvOff b e).1.1)
 have m3:=Z.some aE.out (fun e=>by
  rcases e with e|e
  ·omega
  ·have:=a3 _ e;omega)
 have b2:=Z.size;generalize World.setCell _ _ _=m at *;have M:=zf a8;have a2:=a8.box;simp only[jh,sl3]at a2;have a4:∀b,(V C (rts.filter fun t=>!lgP given ets t).length D).ownBlock=E b->b≠gs/\b<w.heap.size:=fun b d=>⟨(M.out.rvgs b d).1,ax b (X b d)⟩
 have J:=zf (fun W (j:Wr (fun b=>(V C (rts.filter fun t=>!lgP given ets t).length D).ownBlock=E b) m W)=>
  have x:=j.some m3 (fun e=>by have:=a4 _ e;omega);have qS:=j.some a2 (fun e=>(a4 _ e).1 rfl);Xc (c_ 3 qS) (Xc (c_ 0 x) (Xc (c_ 1 x) (Xc (c_ 2 x) (c_ 3 x)))))
 have af:=zf (fun W (j:Wr (fun b=>(V C (rts.filter fun t=>!lgP given ets t).length D).ownBlock=E b) m W)=>(Xh (j.some a2 (fun e=>(a4 _ e).1 rfl)):W.frozen? (Xd gs 3 O)=false));have F:Ext m (m.drew.alloc (cl #[V fa R N,G tb,V ta tl tc,i_ nn] 106)):=(Xe m).drew.alloc _;have ab:=(M.out.rgrw.ext F).own;rw[zm]at ab;have aw:=(M.out.rgrw.ext F).dig;have ak:=zf (fun(A8:H) (g8 cap8:Nat) own grow s dig=>M.out.pushRow (A8:=A8) (g8:=g8) (cap8:=cap8) (t:=⟨(fa,R,N),⟨tb,ta,tl,tc⟩,nn⟩) F (au.ext F) own grow s dig);have aG:=zf Z;have aF:Hid (∀L,L=(rts.filter fun t=>!lgP given ets t)->L.length<=1000):=fun L A=>by rw[A];exact aP
 obtain⟨L,A⟩:∃L,L=(rts.filter fun t=>!lgP given ets t):=⟨_,rfl⟩;have aY:=aF.out L A;have aD:=zf A;simp only[<-A]at X a4 J af ak ab aw⊢;have aX:=M.out;clear a8 au m3 a2 Z HF I ah aj a9 av y A;gi_wp2;refine zeB 11 (S:=fun W=>W.cell? (Xd gs 3 O)=E (V C L.length D)/\W.cell? (y_ w 0)=E (V fa R N)/\W.cell? (y_ w 1)=E (G tb)/\W.cell? (y_ w 2)=E (V ta tl tc)/\W.cell? (y_ w 3)=E (i_ nn)) hm (J.out m (Xj _ _)) (h:=fun u=>?_);refine tkl [0,1,2,3,4,5,6] ?_;refine rd1 7 fun K i=>?_;go_simp;refine i.out _ _ (J.out _ (Xg F)) (h:=fun u=>?_);clear i K;refine rd1 8 fun K i=>?_;refine QM _ rfl (.tmp 21) (.tmp 24) 120 rfl B 106 j0 (ag #[V_,G false,V_,i_ 0]) 4 64 underlying120 aN aU aV aW rfl dc (V C L.length D) L.length (L.map NT.cells).flatten rfl ab (y_ m 0) 1 1 [V fa R N,G tb,V ta tl tc,i_ nn] rfl rfl (rec_new m.drew [V fa R N,G tb,V ta tl tc,i_ nn] 106) (by intro a0 f;simp only[zI,zY,Zp]at f;rcases f with rfl|rfl|rfl|rfl<;>rfl) om mo om so (m.heap.size+1) sp (by intro a0 f;simp[Value.cells]at f;rcases f with rfl|rfl|rfl|rfl<;>(intro n e;cases e)) (by intro a0 f;simp only[zI,zY,Zp]at f;rcases f with rfl|rfl|rfl|rfl<;>(intro n e;cases e)) aw ?_;intro g9 an A9 az a7 a5 b5 aq;have x9:=(Xg F).trans (Qh a7 (fun aJ hg=>hg));have HF:=zf (ak.out A9 g9 an az a7 (a5.imp id (fun e=>so)) aq);have aC:=zf a5;have s8:=(J.out _ x9).1;clear az a7 a5 aq;refine i.out _ _ (J.out _ x9) (h:=fun u=>?_);clear i K;have f8:=af.out _ x9;refine tkl [9,10] ?_;refine zV kr (zdB (h:=?_)) _;go_simp;clear u s8 f8;gi_wp2;obtain⟨aK,aQ⟩:=HF.out;refine⟨_,qI rfl _ _ _,⟨_,rfl⟩,⟨V (E (Xd g9 0 O)) (L.length+1) an,V (E (Xd g8 0 O)) (lts.length+1) cap8,by rw[<-aD.out];exact aK,fun b d=>?_⟩,?_⟩
 ·rcases d with e|e
  ·have eb:g9=b:=by simpa[Value.ownBlock]using e
   rcases aC.out with q|q
   ·rw[eb]at q;exact .inl (.inl (X b q))
   ·right
    have q':m.heap.size+1<=g9:=by simpa using jm q.symm
    omega
  ·have eb:g8=b:=by simpa[Value.ownBlock]using e
   rcases aB.out with q|q
   ·rw[eb]at q;exact .inl (.inr q)
   ·right
    have q':g.heap.size+1<=g8:=by simpa using jm q.symm
    omega
 ·refine Wr.trans (Wr.trans (aH.out) (aG.out.mono ?_)) (aQ.mono ?_)
  ·rintro b (e|e);·exact .inl e
   ·exact .inr (.inr e)
  ·rintro b (e|e);·exact .inl e
   ·exact .inr (.inl (X b e))
end

end

section
open Go.RowKit
attribute [local go_sem] zD zW qJ
theorem zfe {P:Program}{ops:Array Oper}{Q:Exit->Act->H->Prop}{n id:Nat}{S:H->Prop}{a:Act}{w:H}(R:Act->H->Prop)(hm:P.follows .mixedOrders=true)
 (d:S w.drew) (h:S w.drew->wpAnyH P .any ops (fun e a w=>e= .normal/\(Exit.normal= .normal/\R a w)) S ops.size (Array.replicate ops.size false) a w.drew) (b:∀a w,R a w->Q .normal a w):(Code.region id ops true).wpIn Fence.wide n P Q a w:=by
 refine zbI (Jc (Q:=fun e a w=>e= .normal/\R a w) hm d h) ?_;rintro e d d ⟨rfl,h⟩;exact b _ _ h
section

variable {P:Program} {ops:Array Oper} {Q:Exit->Act->World->Prop} {md:Region.Mode} {S:World->Prop} {fuel:Nat} {listed:Array Bool} {a:Act} {w:World}
theorem rd3 (i j k:Nat){o o1 o2:Oper}(hr:Region.ready md ops listed= [i,j,k]:=by kernel_rfl)(ho:ops.toList[i]? =some o:=by rfl)(ho1:ops.toList[j]? =some o1:=by rfl)(ho2:ops.toList[k]? =some o2:=by rfl)
 (h:∀K':Act->World->Prop,Back P ops Q md S fuel (listed.setIfInBounds i true) K'->if Region.wanted o (yielded ops a.tmps)=true then Oper.wp P o a w K' Q else K' (a.put o.dst undef) w)
 (h1:∀K':Act->World->Prop,Back P ops Q md S fuel (listed.setIfInBounds j true) K'->if Region.wanted o1 (yielded ops a.tmps)=true then Oper.wp P o1 a w K' Q else K' (a.put o1.dst undef) w)
 (h2:∀K':Act->World->Prop,Back P ops Q md S fuel (listed.setIfInBounds k true) K'->if Region.wanted o2 (yielded ops a.tmps)=true then Oper.wp P o2 a w K' Q else K' (a.put o2.dst undef) w):wpAnyH P md ops Q S (fuel+1) listed a w:=
 wpAnyH_ready hr (by simp) (rdc (ho:=ho) (h:=h) (hs:=rdc (ho:=ho1) (h:=h1) (hs:=rdc (ho:=ho2) (h:=h2) (hs:=AllReadyH.nil))))
end
variable {W:H}{aims:L_}{c:Cor}{e:Edg}{n:Nat}
theorem zcb{w0:H}(_:Ext w0 W)(o:Obj):(W.alloc o).heap[W.heap.size]? =E o/\w0.heap.size<=W.heap.size:=⟨zC W o,by rename_i y;exact y.size⟩
theorem zdC{g:Nat}{o:Obj}(h:W.heap[g]? =E o)(p:Obj):(W.alloc p).heap[g]? =E o/\g≠W.heap.size:=⟨(qH _ _ _ (zd.1 h).1).trans h,Nat.ne_of_lt (zd.1 h).1⟩
theorem zl8{w0:H}(_:Ext w0 W):∃b,W=b:=⟨W,rfl⟩
theorem zay(w:H):w.drew.heap.size=w.heap.size:=rfl
theorem J8{b:H}{g:Nat}{o:Obj}(h:W.heap[g]? =E o)(hb:b_ W b):b.heap[g]? =E o:=((Xf hb).block _ (zd.1 h).1).trans h
def zer (n:Nat)(aims:L_)(c:Cor)(r j:Nat):L_×Int:=(c.edges.take j).foldl (fun acc e=>JQ acc e.row (Zc aims c.over r e:Int)) (List.replicate n 0,0)
def zeC (aims:L_)(c:Cor)(r j:Nat):List (Nat×Int):=((c.edges.take j).map fun e=>(e.num,(Zc aims c.over r e:Int))).filter fun p=>decide (p.2≠0)
theorem zkQ{r j:Nat}(h:c.edges[j]? =E e):zer n aims c r (j+1)=JQ (zer n aims c r j) e.row (Zc aims c.over r e:Int):=by
 unfold zer;rw[ZB,h];simp
theorem zn5{r j:Nat}(h:c.edges[j]? =E e):zeC aims c r (j+1)=if (Zc aims c.over r e:Int)=0 then zeC aims c r j else zeC aims c r j ++ [(e.num,(Zc aims c.over r e:Int))]:=by
 unfold zeC;rw[ZB,h,Z6,je];by_cases b:(Zc aims c.over r e:Int)=0
 ·rw[zQ b];simp[b]
 ·rw[zO b];congr 1
  simp only[zcI,Zk,zdJ,Qz,List.filter_nil];rw[zQ (by simpa using b)]
theorem zl9{r:Nat}:zer n aims c r c.edges.length=Qf n aims c r:=by unfold zer Qf;rw[Zx]
theorem zpq{r:Nat}:zeC aims c r c.edges.length=(QX n aims c r).parts:=by unfold zeC QX;rw[Zx]
theorem zma{over r:Nat}(ho:over≠0):Zc aims over r e<over:=by
 unfold Zc;have b:=zcB ((qT aims e.loss).getD r 0) (show(0:Int)<(over:Int)by omega);have b:=J3 ((qT aims e.loss).getD r 0) (show(over:Int)≠0 by omega);omega
theorem ziS{D:Nat}{r:Nat}(b:Fit D n aims c):∀j,j<=c.edges.length->(zer n aims c r j).1.length=n/\Jm (j*(D*D)) (zer n aims c r j)
 |0,_=>by
  refine⟨by simp[zer],fun z d=>?_,by simpa[zer]using Xr _⟩;have:z=0:=zaB (by simpa[zer]using d);rw[this];exact Xr _
 |j+1,s=>by
  have l:=zg (show j<c.edges.length by omega);obtain⟨g,h,i⟩:=ziS (r:=r) b j om;obtain⟨⟨o,_⟩,⟨p,q⟩,_⟩:=b.edge _ (zJ (show j<c.edges.length by omega));rw[zkQ l];generalize c.edges[j]=f at *;have e:Lim D (Zc aims c.over r f:Int):=Xq (zF (zcw (zma b.pos)) b.overD);have hm:j*(D*D)+D*D=(j+1)*(D*D):=by rw[Zg,Jv]
  refine⟨by simp[JQ,g,o],fun z d=>?_,?_⟩
  ·unfold JQ at d;obtain⟨_,m,rfl⟩:=qM d;simp only[jY]at m;rw[zbX,<-hm];exact(h _ (zJ om)).add ((p _ (zJ om)).mul e)
  ·rw[<-hm];exact i.add (q.mul e)
end

section
open Go.RowKit
attribute [local go_sem] zD zW qJ
variable {A b:H}{d:List PT}{e:List (Nat×Int)}{f g5:Nat}{x:L_×Int}
def zd6 (A:H)(ps:List PT)(qs:List (Nat×Int)):Prop:=ps.length=qs.length/\∀(i:Nat) (p:PT) (q:Nat×Int),ps[i]? =E p->qs[i]? =E q->p.num=(q.1:Int)/\zy A p.t.val q.2
theorem zd6.keep{B:Nat}(h:zd6 A d e)(f:zn B A b):zd6 b d e:=⟨h.1,fun i p q b d=>⟨(h.2 i p q b d).1,(h.2 i p q b d).2.keep f⟩⟩
theorem zd6.wr{U:Nat->Prop}(h:zd6 A d e)(g:Wr U A b)(f:∀k,U k->qK A k):zd6 b d e:=⟨h.1,fun i p q b d=>⟨(h.2 i p q b d).1,(h.2 i p q b d).2.wr g f⟩⟩
theorem zd6.ext(h:zd6 A d e)(f:Ext A b):zd6 b d e:=h.keep (B:=0) (zn.of_below f)
theorem zd6.take{b:List PT}{d:List (Nat×Int)}(h:zd6 A b d)(num:Nat)(t:WT)(z:Int)(e:zy A t.val z):zd6 A (if z=0 then b else b ++ [⟨(num:Int),t⟩]) (if z=0 then d else d ++ [(num,z)]):=by
 by_cases b:z=0
 ·rw[zQ b,zQ b];exact h
 ·rw[zO b,zO b];exact⟨by simp[h.1],zhN h.1 h.2 ⟨rfl,e⟩⟩
theorem zkR:∀(l:L_) (d:Nat),(∀z∈l,z=0)->l.foldl (fun d z=>Nat.gcd d z.natAbs) d=d
 |[],_,_=>rfl
 |z::l,d,h=>by
  rw[zaZ,h z qA];simpa using zkR l d (fun x b=>h x (qq _ b))
theorem zr7{B:Nat}{l:L_}(h:Zu B l):zeV l<=B:=by
 by_cases d:∃z∈l,z≠0
 ·obtain⟨z,hm,b⟩:=d;exact zF (zeS om ((zfw l 0).2 z hm)) (zd1.1 (h z hm))
 ·unfold zeV;rw[zkR l 0 (fun z hm=>by
   by_cases b:z=0
   ·exact b
   ·exact absurd ⟨z,hm,b⟩ d)]
  exact qo _
theorem zpr(aims:L_)(c:Cor)(r j:Nat):(zeC aims c r j).length<=j:=by
 unfold zeC;refine zF (jB _ _) ?_;rw[zm,zX];omega
theorem zps{D K:Nat}(b:jN D K){aims l:L_}(e:aims.length=l.length)(f:l.length<=4)(d:Zu D aims)(hb:Zu D l)(r:Nat):Lim (gB D) ((qT aims l).getD r 0):=by
 cases r with
 |zero=>exact(zcC d hb).mono (zZ _ om)
 |succ r=>
  rw[zhB e];split
  ·exact(hb.at r).neg.mono b.le_gain
  ·exact(hb.at r).mono b.le_gain
structure CoM (A:H)(b0 bl g5 g6:Nat)(ov:S_)(qs:List (Nat×Int))(x:L_×Int)(pv:Value)(ps:List PT)(rr:RW):Prop where
 line:A.heap[g5]? =E (cl #[sl3 ov,pv] 109)
 grw:Grw b0 260 3 A pv (ps.map PT.cells)
 own:∀b,pv.ownBlock=E b->b≠g5/\b≠g6/\bl<=b
 pts:zd6 A ps qs
 box:A.heap[g6]? =E (cl #[rr.fv,G rr.t.b,rr.t.sv] 104)
 row:QG A rr x
theorem CoM.keep{C:Nat}{d:H}{e g:Nat}{ov:S_}{j:List (Nat×Int)}{pv:Value}{i:List PT}{l:RW}(h:CoM A e f g5 g ov j x pv i l)(b:zn C A d):CoM d e f g5 g ov j x pv i l:=
 ⟨b.block _ _ h.line (.inr rfl),h.grw.keep b,h.own,h.pts.keep b,b.block _ _ h.box (.inr rfl),⟨h.row.1.keep b,h.row.2.keep b⟩⟩
theorem CoM.ext{d e:Nat}{ov:S_}{i:List (Nat×Int)}{pv:Value}{g:List PT}{j:RW}(h:CoM A d e g5 f ov i x pv g j)(l:Ext A b):CoM b d e g5 f ov i x pv g j:=h.keep (C:=0) (zn.of_below l)
def CoI (w1:H)(b0 g5 g6:Nat)(ov:S_)(n:Nat)(aims:L_)(c:Cor)(r j:Nat)(M:Nat->Prop)(A:H):Prop:=
 j<=c.edges.length/\Wr (fun b=>b=g5\/b=g6) w1 A/\∃pv ps rr,CoM A b0 w1.heap.size g5 g6 ov (zeC aims c r j) (zer n aims c r j) pv ps rr/\∀b,M b↔b=g5\/b=g6\/pv.ownBlock=E b
theorem zfX{W:H}{r:RW}(h:QG W r x)(o:Obj):QG (W.alloc o) r x:=⟨h.1.ext ((Xe W).alloc o),h.2.below ((Xe W).alloc o)⟩
theorem ln_box{w0 d:H}{o:Obj}(e:d.heap[g5]? =E (cl #[V_,V_] 109))(g:d.heap[f]? =E o)(y:Ext w0 d)(hg:w0.heap.size<=g5)(h:g5≠f)(u v:Value):
 ((d.setCell (Xd g5 0 O) u).setCell (Xd g5 1 O) v).heap[g5]? =E (cl #[u,v] 109)/\((d.setCell (Xd g5 0 O) u).setCell (Xd g5 1 O) v).heap[f]? =E o/\Ext w0 ((d.setCell (Xd g5 0 O) u).setCell (Xd g5 1 O) v)/\Wr (fun b=>b=g5) d ((d.setCell (Xd g5 0 O) u).setCell (Xd g5 1 O) v)/\(¬qQ d g5 64/\qK d g5)/\
 (d.cell? (Xd g5 0 O)=E (V_)/\d.cell? (Xd g5 1 O)=E (V_))/\d.frozen? (Xd g5 0 O)=false/\d.frozen? (Xd g5 1 O)=false:=by
 have f:Wr (fun b=>b=g5) d ((d.setCell (Xd g5 0 O) u).setCell (Xd g5 1 O) v):=(zv (U:=fun k=>k=g5) rfl _).trans (zv (U:=fun k=>k=g5) rfl _);exact⟨qG (qG e),f.some g (fun d=>h d.symm),qk y f (fun b d=>by rw[d];exact hg),f,⟨fun d=>absurd (d.one ⟨_,_,e⟩) dc,zE e n1⟩,⟨c_ 0 e,c_ 1 e⟩,Xh e,Xh e⟩
theorem rw_box{w0 f:H}{d:Nat}{o:Obj}{p q:Value}{h:Bool}(i:f.heap[g5]? =E o)(g:f.heap[d]? =E (cl #[p,G h,q] 104))(y:Ext w0 f)(hg:w0.heap.size<=d)(j:g5≠d)(u:Value)(b:Bool)(v:Value)(l:ZM p:=by intro n e;cases e)(m:ZM q:=by intro n e;cases e):
 (((f.setCell (Xd d 0 O) u).setCell (Xd d 1 O) (G b)).setCell (Xd d 2 O) v).heap[g5]? =E o/\(((f.setCell (Xd d 0 O) u).setCell (Xd d 1 O) (G b)).setCell (Xd d 2 O) v).heap[d]? =E (cl #[u,G b,v] 104)/\Ext w0 (((f.setCell (Xd d 0 O) u).setCell (Xd d 1 O) (G b)).setCell (Xd d 2 O) v)/\Wr (fun b=>b=d) f (((f.setCell (Xd d 0 O) u).setCell (Xd d 1 O) (G b)).setCell (Xd d 2 O) v)/\(¬qQ f d 64/\qK f d)/\
 (f.cell? (Xd d 0 O)=E p/\f.cell? (Xd d 1 O)=E (G h)/\f.cell? (Xd d 2 O)=E q)/\f.frozen? (Xd d 0 O)=false/\f.frozen? (Xd d 1 O)=false/\f.frozen? (Xd d 2 O)=false:=by
 have h:Wr (fun b=>b=d) f (((f.setCell (Xd d 0 O) u).setCell (Xd d 1 O) (G b)).setCell (Xd d 2 O) v):=zce rfl _ _ _;exact⟨h.some i j,qG (qG (qG g)),qk y h (fun b d=>by rw[d];exact hg),h,⟨fun d=>absurd (d.one ⟨_,_,g⟩) dc,zE g (by intro u d;simp at d;rcases d with rfl|rfl|rfl;exact l;(intro n e;cases e);exact m)⟩,⟨c_ 0 g,c_ 1 g,c_ 2 g⟩,Xh g,Xh g,Xh g⟩
theorem ten_cells{w:H}{g:Nat}{b d a2 e f i j l m o:Value}(h:w.heap[g]? =E (cl #[b,d,a2,e,f,i,j,l,m,o] 116)):w.cell? (Xd g 0 O)=E b/\w.cell? (Xd g 1 O)=E d/\w.cell? (Xd g 2 O)=E a2/\w.cell? (Xd g 3 O)=E e/\w.cell? (Xd g 4 O)=E f/\w.cell? (Xd g 5 O)=E i/\w.cell? (Xd g 6 O)=E j/\w.cell? (Xd g 7 O)=E l/\w.cell? (Xd g 8 O)=E m/\w.cell? (Xd g 9 O)=E o:=
 ⟨c_ 0 h,c_ 1 h,c_ 2 h,c_ 3 h,c_ 4 h,c_ 5 h,c_ 6 h,c_ 7 h,c_ 8 h,c_ 9 h⟩
theorem zgr{B:H}{b:Nat}{A z y v t r p m j h:Value}(f:B.heap[b]? =E (cl #[A,z,y,v,t,r,p,m,j,h] 116))(d e g i l o q s u x:Value):
 ((((((((((B.setCell (Xd b 0 O) d).setCell (Xd b 1 O) e).setCell (Xd b 2 O) g).setCell (Xd b 3 O) i).setCell (Xd b 4 O) l).setCell (Xd b 5 O) o).setCell (Xd b 6 O) q).setCell (Xd b 7 O) s).setCell (Xd b 8 O) u).setCell (Xd b 9 O) x).heap[b]? =E (cl #[d,e,g,i,l,o,q,s,u,x] 116)/\Wr (fun k=>k=b) B ((((((((((B.setCell (Xd b 0 O) d).setCell (Xd b 1 O) e).setCell (Xd b 2 O) g).setCell (Xd b 3 O) i).setCell (Xd b 4 O) l).setCell (Xd b 5 O) o).setCell (Xd b 6 O) q).setCell (Xd b 7 O) s).setCell (Xd b 8 O) u).setCell (Xd b 9 O) x)/\
 (B.cell? (Xd b 0 O)=E A/\B.cell? (Xd b 1 O)=E z/\B.cell? (Xd b 2 O)=E y/\B.cell? (Xd b 3 O)=E v/\B.cell? (Xd b 4 O)=E t/\B.cell? (Xd b 5 O)=E r/\B.cell? (Xd b 6 O)=E p/\B.cell? (Xd b 7 O)=E m/\B.cell? (Xd b 8 O)=E j/\B.cell? (Xd b 9 O)=E h)/\(B.frozen? (Xd b 0 O)=false/\B.frozen? (Xd b 1 O)=false/\B.frozen? (Xd b 2 O)=false/\B.frozen? (Xd b 3 O)=false/\B.frozen? (Xd b 4 O)=false/\B.frozen? (Xd b 5 O)=false/\B.frozen? (Xd b 6 O)=false/\B.frozen? (Xd b 7 O)=false/\B.frozen? (Xd b 8 O)=false/\B.frozen? (Xd b 9 O)=false):=by
 have W:∀(B:H) (A:Nat) (C:Value),Wr (fun k=>k=b) B (B.setCell (Xd b A O) C):=fun _ _ _=>zv (U:=fun k=>k=b) rfl _
 have b:_=E (Obj.cells #[d,z,y,v,t,r,p,m,j,h] 116):=Xl (i:=0) (v:=d) f;have z:_=E (Obj.cells #[d,e,y,v,t,r,p,m,j,h] 116):=Xl (i:=1) (v:=e) b;have b:_=E (Obj.cells #[d,e,g,v,t,r,p,m,j,h] 116):=Xl (i:=2) (v:=g) z;have v:_=E (Obj.cells #[d,e,g,i,t,r,p,m,j,h] 116):=Xl (i:=3) (v:=i) b;have b:_=E (Obj.cells #[d,e,g,i,l,r,p,m,j,h] 116):=Xl (i:=4) (v:=l) v;have r:_=E (Obj.cells #[d,e,g,i,l,o,p,m,j,h] 116):=Xl (i:=5) (v:=o) b;have b:_=E (Obj.cells #[d,e,g,i,l,o,q,m,j,h] 116):=Xl (i:=6) (v:=q) r;have m:_=E (Obj.cells #[d,e,g,i,l,o,q,s,j,h] 116):=Xl (i:=7) (v:=s) b;have b:_=E (Obj.cells #[d,e,g,i,l,o,q,s,u,h] 116):=Xl (i:=8) (v:=u) m;have h:_=E (Obj.cells #[d,e,g,i,l,o,q,s,u,x] 116):=Xl (i:=9) (v:=x) b;exact⟨h,(((((((((W _ _ _).trans (W _ _ _)).trans (W _ _ _)).trans (W _ _ _)).trans (W _ _ _)).trans (W _ _ _)).trans (W _ _ _)).trans (W _ _ _)).trans (W _ _ _)).trans (W _ _ _),ten_cells f,Xh f,Xh f,Xh f,Xh f,Xh f,Xh f,Xh f,Xh f,Xh f,Xh f⟩
theorem zpt{B:H}{b:Nat}(p:B.heap[b]? =E (cl #[V_,G false,V_,i_ 0,V_,V_,V_,V_,V_,V_] 116))(d e f g h i j l m o:Value):
 ((((((((((B.setCell (Xd b 0 O) d).setCell (Xd b 1 O) e).setCell (Xd b 2 O) f).setCell (Xd b 3 O) g).setCell (Xd b 4 O) h).setCell (Xd b 5 O) i).setCell (Xd b 6 O) j).setCell (Xd b 7 O) l).setCell (Xd b 8 O) m).setCell (Xd b 9 O) o).heap[b]? =E (cl #[d,e,f,g,h,i,j,l,m,o] 116)/\Wr (fun k=>k=b) B ((((((((((B.setCell (Xd b 0 O) d).setCell (Xd b 1 O) e).setCell (Xd b 2 O) f).setCell (Xd b 3 O) g).setCell (Xd b 4 O) h).setCell (Xd b 5 O) i).setCell (Xd b 6 O) j).setCell (Xd b 7 O) l).setCell (Xd b 8 O) m).setCell (Xd b 9 O) o)/\Off B b/\
 (B.cell? (Xd b 0 O)=E (V_)/\B.cell? (Xd b 1 O)=E (G false)/\B.cell? (Xd b 2 O)=E (V_)/\B.cell? (Xd b 3 O)=E (i_ 0)/\B.cell? (Xd b 4 O)=E (V_)/\B.cell? (Xd b 5 O)=E (V_)/\B.cell? (Xd b 6 O)=E (V_)/\B.cell? (Xd b 7 O)=E (V_)/\B.cell? (Xd b 8 O)=E (V_)/\B.cell? (Xd b 9 O)=E (V_))/\(B.frozen? (Xd b 0 O)=false/\B.frozen? (Xd b 1 O)=false/\B.frozen? (Xd b 2 O)=false/\B.frozen? (Xd b 3 O)=false/\B.frozen? (Xd b 4 O)=false/\B.frozen? (Xd b 5 O)=false/\B.frozen? (Xd b 6 O)=false/\B.frozen? (Xd b 7 O)=false/\B.frozen? (Xd b 8 O)=false/\B.frozen? (Xd b 9 O)=false):=by
 have q:qQ B b 116:=⟨_,_,p⟩;obtain⟨b,r,s,t⟩:=zgr p d e f g h i j l m o;exact⟨b,r,⟨⟨⟨fun e=>absurd (e.one q) dc,zE p (by intro u b;simp at b;rcases b with rfl|rfl|rfl|rfl|rfl<;>(intro n e;cases e))⟩,fun e=>absurd (e.one q) dc⟩,fun e=>absurd (e.one q) dc⟩,s,t⟩
theorem zpu{D K n:Nat}(p:jN D K)(w:H)(gs given m:Nat)(a:S_)(rv:Value)(ca:A_)(cc:Nat)(c:CT)(hS:w.heap[gs]? =E (cl (jh a n given rv c (V ca m cc)) 123))(eu:given<=1000)(ew:m<=100000)(aims:L_)(k:Cor)(ets:List ET)(hM:JF w aims c k ets)(x:Fit D n aims k)(r:Nat)(hr:r<=n)(e2:Zm n aims k r≠0)(dS:(Zd n aims k r).1.length=n)(dH:Jm D (Zd n aims k r))(k':Cor)(dL:Qe aims k (Zd n aims k r) (given+m+1)=E k'):
 C_ 99 #[p_ gs 0,i_ (r:Nat)] w fun e w'=>∃(t:JG) (dy:List ET),e=Xa t.val/\zcH w' aims t (Zd n aims k r,given+m+1) (QX n aims k r) k' dy/\b_ w w':=by
 have br:=zf hM;have cQ:=hM.len;have bS:=(zd.1 hS).1;have dm:=zf (fun W=>zhE c W);have de:=zf (fun W=>zpb n (by have:=x.n4;omega) W);have dh:=zf (fun W=>zkF c (r:Int) W);have di:=zf (fun b=>zju p x c ets cQ r hr b);have dg:=zf (fun(C w1 A:H) (dx:Nat->Prop) Y aP av hU=>zkG (r:=r) (w0:=C) (w1:=w1) (A:=A) (U:=dx) hM Y aP av hU);obtain⟨_,_,_⟩:=a;obtain⟨⟨aa,al,ac⟩,⟨oa,ol,oc⟩,⟨pa,pl,pc⟩,⟨bt,el,ec⟩⟩:=c;simp only[CT.val,sl3,jh]at *;have x0:Ext w (w.alloc (cl #[V_,G false,V_,i_ 0,V_,V_,V_,V_,V_,V_] 116)):=(Xe w).alloc _;have n0:=zC w (cl #[V_,G false,V_,i_ 0,V_,V_,V_,V_,V_,V_] 116);clear hM;refine Q0 func99 ntmps99 (h:=?_);gi_wp2;generalize w.alloc (cl #[V_,G false,V_,i_ 0,V_,V_,V_,V_,V_,V_] 116)=C at *;have bq:=zf (fun W (hW:Ext C W)=>Xc ((x0.trans hW).block _ bS |>.trans hS) ((hW.block _ (zd.1 n0).1).trans n0));have ab:=zf (fun W (hW:Ext C W)=>
  have qS:=(bq.out W hW).1;Xc (c_ 1 qS) (Xc (c_ 4 qS) (Xc (c_ 5 qS) (Xc (c_ 6 qS) (c_ 7 qS)))))
 have ex:=(zd.1 n0).1;clear hS n0;refine zfe (S:=fun W=>W.cell? (Xd gs 1 O)=E (i_ (n:Nat))/\W.cell? (Xd gs 4 O)=E (V aa al ac)/\W.cell? (Xd gs 5 O)=E (V oa ol oc)/\W.cell? (Xd gs 6 O)=E (V pa pl pc)/\W.cell? (Xd gs 7 O)=E (V bt el ec))
  (fun a' a6=>∃(i j:Nat) (rr:RW),a6.heap[i]? =E (cl #[V oa ol oc,V_] 109)/\a6.heap[j]? =E (cl #[rr.fv,G rr.t.b,rr.t.sv] 104)/\QG a6 rr (List.replicate n 0,0)/\Ext C a6/\C.heap.size<=i/\C.heap.size<=j/\i≠j/\
   a'={ tmps:=#[p_ gs 0,i_ (r:Nat),undef,undef,p_ w.heap.size 0,p_ i 0,p_ j 0,undef,undef,undef,undef,undef,undef,p_ gs 0,p_ gs 0,p_ gs 4,ag #[V aa al ac,V oa ol oc,V pa pl pc,V bt el ec],V oa ol oc,ag #[V oa ol oc,V_],p_ gs 0,p_ gs 0,p_ gs 1,i_ (n:Nat),rr.val,undef,undef,undef,undef,undef,undef,undef,undef,undef,undef,undef,undef,undef,undef,undef,undef,undef,undef,undef,undef,undef,undef,undef,undef,undef,undef,undef,undef,undef,undef,undef,undef,undef,undef,undef,undef,undef,undef,undef,undef,undef,undef,undef,undef,undef,undef,undef,undef,undef,undef,undef,undef,undef,undef,undef,undef,undef,undef,undef,undef,undef,undef,undef,undef,undef],defers:= [] }) hm (ab.out C (Xe _)) (fun q=>?_) ?_
 ·have y:=(Xe C).drew;refine tkl [0,1,2,3,6,7,8,9] ?_;iterate 3 all_goals try
   first
    |(have _l:=o;have _r:=l;refine rd1 4 fun K f=>?_)
    |(have _l:=o;refine rd2 4 12 (h:=fun K f=>?_) (h1:=fun K f=>?_))
    |(have _r:=l;refine rd2 4 11 (h:=fun K f=>?_) (h1:=fun K f=>?_))
    |refine rd3 4 11 12 (h:=fun K f=>?_) (h1:=fun K f=>?_) (h2:=fun K f=>?_)
   all_goals
    go_simp;first
     |go_at_call 101
     |(
      refine f.out _ _ (ab.out _ (y.alloc (cl #[V_,V_] 109))) (h:=fun q=>?_);clear f K;obtain⟨o,aX⟩:=zcb y (cl #[V_,V_] 109);try(have R:=zdC l (cl #[V_,V_] 109);obtain⟨l,U⟩:=R)
      have y:=y.alloc (cl #[V_,V_] 109))
     |(
      refine f.out _ _ (ab.out _ (y.alloc (cl #[V_,G false,V_] 104))) (h:=fun q=>?_);clear f K;obtain⟨l,aY⟩:=zcb y (cl #[V_,G false,V_] 104);try(have R:=zdC o (cl #[V_,G false,V_] 104);obtain⟨o,U⟩:=R)
      have y:=y.alloc (cl #[V_,G false,V_] 104))
  all_goals
   refine(dm.out _).mono ?_;rintro e B1 ⟨rfl,aW⟩;have y:=y.trans (Xf aW);try have o:=J8 o aW
   try have l:=J8 l aW
   go_wp2_with fail
   refine f.out _ _ (ab.out _ y) (h:=fun q=>?_);clear f K;refine tkv 5 ?_
  iterate 3 all_goals try
   first
    |(have _l:=o;have _r:=l;refine rd1 10 fun K f=>?_)
    |(have _l:=o;refine rd2 10 12 (h:=fun K f=>?_) (h1:=fun K f=>?_))
    |(have _r:=l;refine rd2 10 11 (h:=fun K f=>?_) (h1:=fun K f=>?_))
    |refine rd3 10 11 12 (h:=fun K f=>?_) (h1:=fun K f=>?_) (h2:=fun K f=>?_)
   all_goals
    go_simp;first
     |go_at_call 170
     |(
      refine f.out _ _ (ab.out _ (y.alloc (cl #[V_,V_] 109))) (h:=fun q=>?_);clear f K;obtain⟨o,aX⟩:=zcb y (cl #[V_,V_] 109);try(have R:=zdC l (cl #[V_,V_] 109);obtain⟨l,U⟩:=R)
      have y:=y.alloc (cl #[V_,V_] 109))
     |(
      refine f.out _ _ (ab.out _ (y.alloc (cl #[V_,G false,V_] 104))) (h:=fun q=>?_);clear f K;obtain⟨l,aY⟩:=zcb y (cl #[V_,G false,V_] 104);try(have R:=zdC o (cl #[V_,G false,V_] 104);obtain⟨o,U⟩:=R)
      have y:=y.alloc (cl #[V_,G false,V_] 104))
  all_goals
   refine(de.out _).mono ?_;rintro e B2 ⟨⟨⟨ra,rl,rc⟩,⟨rb,sa,sl,sc⟩⟩,rfl,ak,bP⟩;have y:=y.trans (Xf bP);try have o:=J8 o bP
   try have l:=J8 l bP
   simp only[RW.val,RW.fv,WT.sv]at ak⊢;go_wp2_with fail
   refine f.out _ _ (ab.out _ y) (h:=fun q=>?_);clear f K
  iterate 2 all_goals first
   |(have _l:=o;have _r:=l)
   |(
    (
     first
     |(have _l:=o;refine rd1 12 fun K f=>?_)
     |(have _r:=l;refine rd1 11 fun K f=>?_)
     |refine rd2 11 12 (h:=fun K f=>?_) (h1:=fun K f=>?_))
    all_goals
     go_simp;first
      |(
       refine f.out _ _ (ab.out _ (y.alloc (cl #[V_,V_] 109))) (h:=fun q=>?_);clear f K;obtain⟨o,aX⟩:=zcb y (cl #[V_,V_] 109);try(have R:=zdC l (cl #[V_,V_] 109);obtain⟨l,U⟩:=R)
       have ak:=zfX ak (cl #[V_,V_] 109);have y:=y.alloc (cl #[V_,V_] 109))
      |(
       refine f.out _ _ (ab.out _ (y.alloc (cl #[V_,G false,V_] 104))) (h:=fun q=>?_);clear f K;obtain⟨l,aY⟩:=zcb y (cl #[V_,G false,V_] 104);try(have R:=zdC o (cl #[V_,G false,V_] 104);obtain⟨o,U⟩:=R)
       have ak:=zfX ak (cl #[V_,G false,V_] 104);have y:=y.alloc (cl #[V_,G false,V_] 104)))
  all_goals
   obtain⟨a6,hV⟩:=zl8 y;try simp only[zL,zay]at aX
   try simp only[zL,zay]at aY
   try simp only[zL,zay]at U
   try simp only[zL,zay]at o
   try simp only[zL,zay]at l
   simp only[hV]at o l y ak q⊢;clear hV;obtain⟨dD,dF,y1,aP,dJ,⟨k0,k1⟩,f0,f1⟩:=ln_box o l y aX (by first|exact U|exact U.symm) (V oa ol oc) (V_);refine rd1 13 fun K f=>?_;go_simp;refine f.out _ _ (ab.out _ y1) (h:=fun q=>?_);clear f K;obtain⟨dE,dG,y2,aQ,dK,⟨j0,j1,j2⟩,i0,i1,i2⟩:=rw_box dD dF y1 aY (by first|exact U|exact U.symm) (V ra rl rc) rb (V sa sl sc);clear k0 k1 f0 f1;refine rd1 14 fun K f=>?_;go_simp;refine f.out _ _ (ab.out _ y2) (h:=fun q=>?_);clear f K;exact zV kr ⟨rfl,(by first|rfl|trivial),_,_,⟨(ra,rl,rc),⟨rb,sa,sl,sc⟩⟩,dE,dG,(ak.wr aP (fun b d=>by rw[d];exact dJ)).wr aQ (fun b d=>by rw[d];exact dK),y2,aX,aY,(by first|exact U|exact U.symm),rfl⟩ _
 ·rintro a' a6 ⟨i,j,⟨⟨ra,rl,rc⟩,⟨rb,sa,sl,sc⟩⟩,o,l,ak,y,aX,aY,U,rfl⟩;simp only[RW.val,RW.fv,WT.sv]at l ak⊢;obtain⟨c1,c4,c5,c6,c7⟩:=ab.out a6 y;have en:=x0.trans y;have dU:=(zd.1 o).1;have dV:=(zd.1 l).1;gi_wp2;refine(zq.2 (dh.out a6)).mono ?_;rintro e w1 ⟨rfl,aP⟩;have x1:Ext a6 w1:=by rw[aP];exact((((Xe a6).alloc _).alloc _).alloc _).alloc _
  have dt:=zf aP;have m5:=(x1.block _ dU).trans o;have m6:=(x1.block _ dV).trans l;have dX:QG w1 ⟨(ra,rl,rc),⟨rb,sa,sl,sc⟩⟩ (List.replicate n 0,0):=⟨ak.1.ext x1,ak.2.below x1⟩;have ez:=x1.size;have cg:=en.trans x1;have em:=y.trans x1;have eH:=x0.size;have cT:=x.n4;have eq:=x.elen;clear aP c1 c4 c5 c6 c7 o l ak;gi_wp2;refine zdG (di.out a6.heap.size) rfl (qW func231 kr rfl) (fun k ek W=>by rintro⟨t,cf,_,rfl,_⟩;rfl)
   (CoI w1 w.heap.size i j (oa,ol,oc) n aims k r) (fun _ _ _=>False) (fun b=>b=i\/b=j) ?hI ?hIx ?hC ?h0 ?round ?done ?stop
  case hI=>
   rintro a7 bs A B ⟨h1,h2,pv,s,rr,u,h4⟩ hk;exact⟨h1,h2.keep hk,pv,s,rr,u.keep hk,h4⟩
  case hIx=>exact fun _ _ _ _ av _=>av
  case hC=>
   rintro a7 bs A ⟨h1,h2,pv,s,rr,u,h4⟩;refine⟨dg.out a6 w1 A _ (qk cg h2 (fun b d=>by rcases d with e|e<;>omega)) dt.out h2 (fun b d=>by rcases d with e|e<;>omega),fun b d=>?_⟩;rcases(h4 b).1 d with e|e|e
   ·rw[e];exact(zd.1 u.line).1
   ·rw[e];exact(zd.1 u.box).1
   ·exact(u.grw.type b e).1.lt
  case h0=>exact⟨qo _,Xj _ _,V_,[],⟨(ra,rl,rc),⟨rb,sa,sl,sc⟩⟩,⟨m5,Xt _ _ _ _,(fun b d=>by cases d),⟨by simp[zeC],fun c9 cd bf hp=>by simp at hp⟩,m6,dX⟩,fun b=>by simp[Value.ownBlock]⟩
  case round=>
   rintro l2 a7 ek bs A ev ⟨t0,u0,d5,rfl,bx⟩ ⟨h1,h2,pv,s,rr,u,h4⟩;have bT:a7<k.edges.length:=om;have bc:=zg bT;obtain⟨⟨dQ,cP⟩,cR,dT⟩:=x.edge _ (zJ bT);have da:=ziN (aims:=aims) (r:=r) bc;rw[da]at bx;have b5:=qk cg h2 (fun b d=>by rcases d with e|e<;>omega);have bL:=(br.out.edge a7 t0 _ d5 bc).ext b5;have cE:=br.out.over.below b5;have ds:=zf (zkQ (n:=n) (aims:=aims) (r:=r) bc);have dp:=zf (zn5 (aims:=aims) (r:=r) bc);obtain⟨aZ,aO⟩:=ziS (r:=r) x a7 om;have e4:=zma (aims:=aims) (r:=r) (e:=k.edges[a7]) x.pos;have e8:=zps p (by rw[x.aim,cP]) (by rw[cP];exact cT) x.aimD dT r;generalize k.edges[a7]=ej at *;have dw:Hid ((((qT aims ej.loss).getD r 0%(k.over:Int)).toNat:Int)=(Zc aims k.over r ej:Int)):=rfl;generalize (qT aims ej.loss).getD r 0=b6 at *;have e3:=zF (zcw e4) x.overD;have b4:Jm (gB D) (zer n aims k r a7):=⟨aO.1.mono (by unfold gB;exact zZ _ om),aO.2.mono (by unfold gB;exact zZ _ om)⟩;have dO:gB D*gB D<4294967296^K:=by have:=p.cross;unfold xB at this;omega
   obtain⟨⟨⟨fa,fl,fc⟩,⟨tb,ta,tl,tc⟩,nn⟩,⟨la,ll,lc⟩⟩:=t0;obtain⟨ub,ua,ul,uc⟩:=u0;have dl:Hid (nn=(ej.num:Int)):=bL.1.2.2;have H3:=zf u;have H4:=zf h4;have eB:=h2.size;simp only[ET.val,NT.fv,WT.sv,ET.lv,WT.val]at bx⊢;have bM:=(zd.1 u.line).1;have ep:=(zd.1 u.box).1;clear d5 bc h4 u da;unfold zdj;gi_wp2;refine⟨Xg (((Xe A).alloc _).alloc _),fun A2 bu=>?_⟩;have bp:=((zn.alloc w1.heap.size A (cl #[V fa fl fc,G tb,V ta tl tc,i_ nn,V la ll lc] 194)).trans (zn.alloc w1.heap.size _ (cl #[G ub,V ua ul uc] 64))).trans bu;have e0:=bu.block _ _ (Xk A (cl #[V fa fl fc,G tb,V ta tl tc,i_ nn,V la ll lc] 194) (cl #[G ub,V ua ul uc] 64)).1 (.inr rfl);have e1:=bu.block _ _ (Xk A (cl #[V fa fl fc,G tb,V ta tl tc,i_ nn,V la ll lc] 194) (cl #[G ub,V ua ul uc] 64)).2 (.inr rfl);have dY:=bu.size;simp only[zL]at dY;have bN:=H3.out.keep bp;have dj:=zf bN;have dC:=bL.keep bp;have e7:=bx.keep bp;have dW:=cE.keep bp;have bG:=zf (zho K (by have:=p.k;omega) (zbV K (by have:=p.k;omega)) A2 _ _ b6 k.over e7 dW x.pos (e8.lt p.gain) (qu x.overD p.one));have ci:=zf e0;have b0:=c_ 0 e1;have b1:=c_ 1 e1;have c5:=c_ 0 bN.line;simp only[sl3]at c5 bG;clear e0 e1 bN bx bL cE;refine ZW ?_;refine zcP (fun K2 b7=>?_);have bD:=zf b7;clear b7;refine Qt (by rfl) (fun⟨a,w,av⟩=>av) ?_;go_wp2_with fail
   refine bG.out.mono ?_;rintro e A3 ⟨_,rfl,hs,aF⟩;obtain⟨⟨_,_,_⟩,rfl⟩:=hs.sl;simp only[sl3]at hs⊢;go_wp2_with fail
   refine(zaR A3 _ _ hs).mono ?_;rintro e v ⟨x4,rfl,az,ba⟩;obtain⟨⟨yb,ya,yl,yc⟩,rfl⟩:=az.shape;rw[dw.out]at az;have y4:=(Xf aF).trans (Xf ba);simp only[WT.val,WT.sv]at az⊢;have n9:=zC v (cl #[G yb,V ya yl yc] 64);have y5:Ext A2 (v.alloc (cl #[G yb,V ya yl yc] 64)):=y4.alloc _;have c8:=az.below ((Xe v).alloc (cl #[G yb,V ya yl yc] 64));clear hs aF ba b0 b1 c5 bG az;go_wp2_with fail
   refine bD.out _ _ ?_;generalize cN:v.heap.size=g9 at *;generalize v.alloc (cl #[G yb,V ya yl yc] 64)=h at *;have er:A2.heap.size<=g9:=by rw[<-cN];exact y4.size
   have es:=(zd.1 n9).1;clear cN y4;have z:=dj.out.ext y5;have e5:=(y5.block _ (zd.1 ci.out).1).trans ci.out;have bH:=zf (zd4 h i (oa,ol,oc) pv s w.heap.size (by have:=y5.size;omega) z.line z.grw (fun b d=>(z.own b d).1) (by have h8:=z.pts.1;have h9:=zpr aims k r a7;omega) nn ⟨yb,ya,yl,yc⟩ _ c8);have dk:=zf z;have cu:=zf c8;have co:=zf n9;have cj:=zf e5;have b3:=c_ 3 e5;have d0:=c_ 0 n9;have d1:=c_ 1 n9;simp only[WT.val,WT.sv]at bH;clear z e5 c8 n9;refine zcP (fun K2 b7=>?_);have bD:=zf b7;clear b7;refine Qt (by rfl) (fun⟨a,w,av⟩=>av) ?_;go_wp2_with fail
   refine bH.out.mono ?_;rintro e A6 ⟨⟨_,rfl⟩,ax,ce,cz,cx,cY⟩;have z:=dk.out;have dA:qQ h i 109:=⟨_,_,z.line⟩;have b9:∀b,b=i\/pv.ownBlock=E b->¬qQ h b 64/\qK h b:=fun b d=>by
    rcases d with e|e
    ·rw[e];obtain⟨_,_,bd⟩:=z.grw.shape;exact⟨fun X=>absurd (X.one dA) dc,zE z.line (by rw[bd];intro cf hu;simp[sl3]at hu;rcases hu with rfl|rfl<;>(intro n e;cases e))⟩
    ·exact⟨fun X=>absurd (X.one (z.grw.type b e).1) dc,z.grw.dig b e⟩
   have b8:=ax.some z.box (fun e=>by
    rcases e with e|e
    ·exact U e.symm
    ·exact(z.own _ e).2.1 rfl)
   have aG:=z.row.wr ax b9;have d9:=cu.out.wr ax (fun b d=>(b9 b d).2);have bK:=((dC.ext y5).wr ax b9).1;have cZ:=(z.pts.take ej.num ⟨yb,ya,yl,yc⟩ _ cu.out).wr ax (fun b d=>(b9 b d).2);have n6:=ax.some co.out (fun e=>by
    rcases e with e|e
    ·omega
    ·exact(b9 g9 (.inr e)).1 ⟨_,_,co.out⟩)
   have e6:=ax.some cj.out (fun e=>by
    rcases e with e|e
    ·omega
    ·exact absurd ((qQ.one (t:=194) ⟨_,_,cj.out⟩ (z.grw.type _ e).1)) dc)
   have cr:=zf (zmN K (by have:=p.k;omega) A6 rr ⟨(fa,fl,fc),⟨tb,ta,tl,tc⟩⟩ ⟨yb,ya,yl,yc⟩ (zer n aims k r a7) ej.row _ aG ⟨bK.1,bK.2.1⟩ d9 (by rw[aZ,dQ]) (by rw[aZ];exact cT) b4 ⟨cR.1.mono p.le_gain,cR.2.mono p.le_gain⟩ ((Xq e3).mono p.le_gain) p.gain dO);have cn:=zf cz;have cm:=zf cx;have cp:=zf cY;have dn:=zf cZ;have du:=zf ax;have bF:=zf b8;obtain⟨⟨e9,ef,ed⟩,⟨eb,eg,ei,eh⟩⟩:=rr;simp only[RW.val,RW.fv,WT.sv,WT.val]at cr b8 bF;have q0:=c_ 0 b8;have q1:=c_ 1 b8;have q2:=c_ 2 b8;have b0:=c_ 0 e6;have b1:=c_ 1 e6;have b2:=c_ 2 e6;have t0:=c_ 0 n6;have t1:=c_ 1 n6;clear z aG d9 bK cZ cz cx cY ax bH b3 d0 d1;go_wp2_with fail
   refine bD.out _ _ ?_;refine Qt (by rfl) (fun⟨a,w,av⟩=>av) ?_;go_wp2_with fail
   refine cr.out.mono ?_;rintro e A7 ⟨⟨⟨bg,bj,bi⟩,⟨bh,bl,bo,bn⟩⟩,rfl,bZ,cH⟩;have x7:=Xf cH;have ay:=(x7.block _ (zd.1 bF.out).1).trans bF.out;have cA:=(x7.block _ (zd.1 cn.out).1).trans cn.out;have j0:=c_ 0 ay;have j1:=c_ 1 ay;have j2:=c_ 2 ay;have i0:=Xh (j:=0) ay;have i1:=Xh (j:=1) ay;have i2:=Xh (j:=2) ay;have aR:Wr (fun b=>b=j) A7 (((A7.setCell (Xd j 0 O) (V bg bj bi)).setCell (Xd j 1 O) (G bh)).setCell (Xd j 2 O) (V bl bo bn)):=zce rfl _ _ _;have cF:=qG (i:=2) (v:=V bl bo bn) (qG (i:=1) (v:=G bh) (qG (i:=0) (v:=V bg bj bi) ay));have bO:∀b,b=j->¬qQ A7 b 64/\qK A7 b:=fun b d=>by
    rw[d];exact⟨fun X=>absurd (X.one ⟨_,_,ay⟩) dc,zE ay n3⟩
   have HF:Hid (zfH bs (CoI w1 w.heap.size i j (oa,ol,oc) n aims k r) (fun _ _ _=>False) a7 A A2 .normal { tmps:=#[],defers:= [] } (((A7.setCell (Xd j 0 O) (V bg bj bi)).setCell (Xd j 1 O) (G bh)).setCell (Xd j 2 O) (V bl bo bn))):=by
    have ax:=du.out;have d6:Wr (fun b=>b=i\/b=j\/pv.ownBlock=E b) A2 (((A7.setCell (Xd j 0 O) (V bg bj bi)).setCell (Xd j 1 O) (G bh)).setCell (Xd j 2 O) (V bl bo bn)):=
     (((Xg y5).trans (ax.mono fun b d=>by rcases d with e|e;exact .inl e;exact .inr (.inr e))).trans (Xg x7)).trans (aR.mono fun b d=> .inr (.inl d))
    have cX:∀b,ce.ownBlock=E b->b≠i/\b≠j/\w1.heap.size<=b:=fun b d=>by
     obtain⟨o1,o2⟩:=cp.out b d;rcases o2 with o2|o2
     ·exact H3.out.own b o2
     ·have:=y5.size;exact⟨o1,om,om⟩
    refine⟨d6.mono fun b d=> .inl ((H4.out b).2 d),fun b=>b=i\/b=j\/ce.ownBlock=E b,⟨bT,?_,ce,(if (Zc aims k.over r ej:Int)=0 then s else s ++ [⟨nn,⟨yb,ya,yl,yc⟩⟩]),⟨(bg,bj,bi),⟨bh,bl,bo,bn⟩⟩,⟨aR.some cA U,?_,cX,?_,cF,?_⟩,fun b=>Qb⟩,fun b d=>?_⟩
    ·refine zlu (h2.keep bp) (N:=fun b=>b=i\/b=j) (d6.mono fun b d=>?_) (fun b d=>d);rcases d with e|e|e
     ·exact .inl (.inl e)
     ·exact .inl (.inr e)
     ·exact .inr (H3.out.own b e).2.2
    ·refine(cm.out.ext x7).same aR.size (fun b d=>aR.block b ((cm.out.ext x7).type b d).1.lt (cX b d).2.1)
    ·rw[dp.out];have:=(dn.out.ext x7).wr aR (fun b d=>(bO b d).2);rw[<-dl.out]at this;exact this
    ·rw[ds.out];exact bZ.wr aR bO
    ·rcases d with e|e|e
     ·exact .inl ((H4.out b).2 (.inl e))
     ·exact .inl ((H4.out b).2 (.inr (.inl e)))
     ·rcases(cp.out b e).2 with db|db
      ·exact .inl ((H4.out b).2 (.inr (.inr db)))
      ·have:=y5.size;exact .inr om
   simp only[RW.val,RW.fv,WT.sv]at bZ⊢;clear bZ cH ay cA aR cF bO;go_wp2_with fail
   exact HF.out
  case done=>
   rintro D' bs A hD ⟨h1,h2,pv,s,rr,u,h4⟩ hd;rw[cQ,zl9,zpq (n:=n)]at u;obtain⟨aZ,aO⟩:=ziS (r:=r) x k.edges.length (zh _);rw[zl9]at aZ aO;have b4:Jm (gB D) (Qf n aims k r):=⟨aO.1.mono (by unfold gB;exact zZ _ om),aO.2.mono (by unfold gB;exact zZ _ om)⟩;have b5:=qk cg h2 (fun b d=>by rcases d with e|e<;>omega);have d7:=qk em h2 (fun b d=>by rcases d with e|e<;>omega);have bV:=br.out.over.below b5;have H3:=zf u;have cU:=qu x.overD p.one;have bE:=zf (ziq K (by have:=p.k;omega) A rr (Qf n aims k r) u.row (by rw[aZ];omega) (oa,ol,oc) k.over bV x.pos cU (fun b6 hz=>(b4.1 b6 hz).lt p.gain) (b4.2.lt p.gain));have bw:Jm (gB D) (Qu (Qf n aims k r) k.over):=⟨fun b6 hz=>by
    obtain⟨bf,R,rfl⟩:=qP.1 hz;exact zgn (Z3 x.pos) (b4.1 bf R),zgn (Z3 x.pos) b4.2⟩
   have d3:(Qu (Qf n aims k r) k.over).1.length=n:=by simp[Qu,aZ]
   have d4:Zm n aims k r<=gB D:=zr7 bw.1;have c5:=c_ 0 u.line;have aB:=u.box;obtain⟨⟨e9,ef,ed⟩,⟨eb,eg,ei,eh⟩⟩:=rr;simp only[RW.val,RW.fv,WT.sv,sl3]at bE c5 aB;have q0:=c_ 0 aB;have q1:=c_ 1 aB;have q2:=c_ 2 aB;have dR:=(zd.1 u.line).1;have eo:=zf u.own;clear u aB h4;gi_wp2;refine(zq.2 bE.out).mono ?_;rintro e A1 ⟨⟨⟨aH,aK,aJ⟩,⟨aI,aL,aN,aM⟩⟩,rfl,bX,aW⟩;have y1:=Xf aW;simp only[RW.val,RW.fv,WT.sv]at bX⊢;have bA:=zC A1 (cl #[V aH aK aJ,G aI,V aL aN aM] 104);have y2:Ext A (A1.alloc (cl #[V aH aK aJ,G aI,V aL aN aM] 104)):=y1.alloc _;have bv:=zfX bX (cl #[V aH aK aJ,G aI,V aL aN aM] 104);have eA:=y1.size;clear q0 q1 q2 c5 bE aW bX;gi_wp2;generalize A1.alloc (cl #[V aH aK aJ,G aI,V aL aN aM] 104)=A2 at *;generalize A1.heap.size=bI at *;clear y1;have bB:=zf (znY K (by have:=p.k;omega) A2 _ _ bv.1 (by rw[d3];omega) bw.1 p.gain);simp only[RW.fv]at bB;have q0:=c_ 0 bA;refine(zq.2 bB.out).mono ?_;rintro e A3 ⟨⟨ga,gl,gc⟩,rfl,bR,aF⟩;have y3:=y2.trans (Xf aF);have ct:=zf (times_any A3 (V oa ol oc) (V ga gl gc) k.over (Zm n aims k r) K K (bV.below y3) bR cU (qu d4 p.gain) (by have:=p.k;omega));have aU:=(y3.block _ dR).trans H3.out.line;simp only[sl3]at aU;have cb:=((Xf aF).block _ (zd.1 bA).1).trans bA;have bY:QG A3 ⟨(aH,aK,aJ),⟨aI,aL,aN,aM⟩⟩ (Qu (Qf n aims k r) k.over):=⟨bv.1.ext (Xf aF),bv.2.below (Xf aF)⟩;have c5:=c_ 0 aU;have f5:=Xh (j:=0) aU;simp only[sl3];clear q0 bB bA bv;gi_wp2;refine(zq.2 ct.out).mono ?_;rintro e v ⟨x4,rfl,az,ba⟩;obtain⟨⟨I,L,J⟩,rfl⟩:=az.sl;have aS:=Xf ba;have y4:=y3.trans aS;have aE:=(aS.block _ (zd.1 aU).1).trans aU;have c4:=c_ 0 aE;have f4:=Xh (j:=0) aE;have aw:Wr (fun b=>b=i) v (v.setCell (Xd i 0 O) (V I L J)):=zv (U:=fun b=>b=i) rfl _;have bM:=qG (i:=0) (v:=V I L J) aE;obtain⟨a8,a9,bd⟩:=H3.out.grw.shape;rw[zm]at bd;have aV:∀b,b=i->¬qQ v b 64/\qK v b:=fun b d=>by
    rw[d];exact⟨fun X=>absurd (X.one ⟨_,_,aE⟩) dc,zE aE (by rw[bd];intro cf hu;simp at hu;rcases hu with rfl|rfl<;>(intro n e;cases e))⟩
   have cG:∀b,b=i->¬qQ v b 194:=fun b d=>by
    rw[d];exact fun X=>absurd (X.one ⟨_,_,aE⟩) dc
   have cS:=aw.some ((aS.block _ (zd.1 cb).1).trans cb) (fun e=>om);have d2:QG _ ⟨(aH,aK,aJ),⟨aI,aL,aN,aM⟩⟩ (Qu (Qf n aims k r) k.over):=QG.wr (w:=v) ⟨bY.1.ext aS,bY.2.below aS⟩ aw aV;have dN:=(bR.below aS).wr aw (fun b d=>(aV b d).2);have cW:=az.wr aw (fun b d=>(aV b d).2);have bW:=(H3.out.pts.ext y4).wr aw (fun b d=>(aV b d).2);have dP:=((H3.out.grw.ext y4).list).wr aw (fun b d=>by rw[d];exact fun X=>absurd (X.one ⟨_,_,aE⟩) dc);have dI:=((br.out.ext b5).ext y4).wr aw (fun b d=>⟨aV b d,cG b d⟩);have c2:=qk (d7.trans y4) aw (fun b d=>om);have bb:=aw.some ((y4.block _ (zd.1 hd).1).trans hd) (fun e=>by
    rw[e,H3.out.line]at hd;cases hd)
   simp only[sl3]at az cW⊢;have eE:=aw.size;have eD:=y4.size;clear aU c5 f5 ct aF ba;gi_wp2;generalize v.setCell (Xd i 0 O) (V I L J)=h at *;subst bd;clear aE c4 f4 aw aV cG bY bR az cb aS y4 y3 y2 aO hd bV H3 b5 d7;have eF:IntKind.i64.wrap ((given:Int)+(m:Int))=(given:Int)+(m:Int):=by rw[IntKind.wrap_i64];omega
   have eG:IntKind.i64.wrap ((given:Int)+(m:Int)+1)=(given:Int)+(m:Int)+1:=by rw[IntKind.wrap_i64];omega
   have cq:=zf (fun W (Y:Ext h W)=>ziq K (by have:=p.k;omega) W ⟨(aH,aK,aJ),⟨aI,aL,aN,aM⟩⟩ (Qu (Qf n aims k r) k.over) ⟨d2.1.ext Y,d2.2.below Y⟩ (by rw[d3];omega) (ga,gl,gc) (Zm n aims k r) (dN.below Y) e2 (qu d4 p.gain) (fun b6 hz=>(bw.1 b6 hz).lt p.gain) (bw.2.lt p.gain));simp only[RW.val,RW.fv,WT.sv,sl3]at cq;have dd:=zf (fun W (Y:Ext h W)=>Xc ((Y.block _ (zd.1 bM).1).trans bM) (Xc ((Y.block _ (zd.1 cS).1).trans cS) (bq.out W (c2.trans Y)).1));have aT:=zf (fun W (Y:Ext h W)=>
    have b:=dd.out W Y;Xc (Xc (c_ 0 b.1) (c_ 1 b.1)) (Xc (Xc (c_ 0 b.2.1) (Xc (c_ 1 b.2.1) (c_ 2 b.2.1))) (Xc (c_ 2 b.2.2) (c_ 8 b.2.2))))
   have dq:Hid (Qu (Qu (Qf n aims k r) k.over) (Zm n aims k r)=Zd n aims k r):=rfl;refine Jc (S:=fun W=>(W.cell? (Xd i 0 O)=E (V I L J)/\W.cell? (Xd i 1 O)=E (V a8 s.length a9))/\(W.cell? (Xd bI 0 O)=E (V aH aK aJ)/\W.cell? (Xd bI 1 O)=E (G aI)/\W.cell? (Xd bI 2 O)=E (V aL aN aM))/\W.cell? (Xd gs 2 O)=E (i_ (given:Int))/\W.cell? (Xd gs 8 O)=E (V ca m cc)) hm (aT.out h (Xe _)) (fun q=>?_);refine tkl [0,1,2,4,5,6,7,8,9,10,11,12,13,14] ?_;have y:=(Xe h).drew;refine rd2 3 17 (h:=fun K f=>?_) (h1:=fun K f=>?_);rotate_left;go_simp;refine f.out _ _ (aT.out _ (y.alloc _)) (h:=fun q=>?_);clear f K;have cB:(h.drew.alloc (cl #[V_,G false,V_,i_ 0,V_,V_,V_,V_,V_,V_] 116)).heap[h.heap.size]? =E (cl #[V_,G false,V_,i_ 0,V_,V_,V_,V_,V_,V_] 116):=zC h.drew _;have y:Ext h (h.drew.alloc (cl #[V_,G false,V_,i_ 0,V_,V_,V_,V_,V_,V_] 116)):=y.alloc _;refine rd1 3 fun K f=>?_;all_goals
    go_simp;refine(cq.out _ y).mono ?_;rintro e A6 ⟨⟨⟨Z,a2,a1⟩,⟨a0,a3,a5,a4⟩⟩,rfl,aG,aB⟩;have y6:=y.trans (Xf aB);try have cC:=J8 cB aB
    simp only[RW.val,RW.fv,WT.sv]at aG⊢;rw[dq.out]at aG;go_wp2_with fail
    refine f.out _ _ (aT.out _ y6) (h:=fun q=>?_);clear f K;refine tkl [15,16] ?_
   refine rd1 18 fun K f=>?_;obtain⟨aD,c0,cM,⟨k0,k1,k2,k3,k4,k5,k6,k7,k8,k9⟩,f0,f1,f2,f3,f4,f5,f6,f7,f8,f9⟩:=zpt cC (V Z a2 a1) (G a0) (V a3 a5 a4) (i_ ((given:Int)+(m:Int)+1)) (V I L J) (V a8 s.length a9) (V_) (V_) (V_) (V_);have aC:=qk y6 c0 (fun b d=>by rw[d];exact zh _);have be:=QG.wr aG c0 (fun b d=>by rw[d];exact cM.1.1);go_simp;refine f.out _ _ (aT.out _ aC) (h:=fun q=>?_);clear f K;generalize ((((((((((A6.setCell (y_ h 0) (V Z a2 a1)).setCell (y_ h 1) (G a0)).setCell (y_ h 2) (V a3 a5 a4)).setCell (y_ h 3) (i_ ((given:Int)+(m:Int)+1))).setCell (y_ h 4) (V I L J)).setCell (y_ h 5) (V a8 s.length a9)).setCell (y_ h 6) (V_)).setCell (y_ h 7) (V_)).setCell (y_ h 8) (V_)).setCell (y_ h 9) (V_))=aA at *;generalize cy:h.heap.size=g at aD⊢;have dM:h.heap.size<=g:=om;clear c0 cM k0 k1 k2 k3 k4 k5 k6 k7 k8 k9 f0 f1 f2 f3 f4 f5 f6 f7 f8 f9 cC cB;rotate_left;refine rd1 17 fun K f=>?_;go_simp;refine f.out _ _ (aT.out _ (y6.alloc _)) (h:=fun q=>?_);clear f K;refine rd1 18 fun K f=>?_;go_simp;refine f.out _ _ (aT.out _ (y6.alloc _)) (h:=fun q=>?_);clear f K;have aD:=zC A6 (cl #[V Z a2 a1,G a0,V a3 a5 a4,i_ ((given:Int)+(m:Int)+1),V I L J,V a8 s.length a9,V_,V_,V_,V_] 116);have aC:Ext h (A6.alloc (cl #[V Z a2 a1,G a0,V a3 a5 a4,i_ ((given:Int)+(m:Int)+1),V I L J,V a8 s.length a9,V_,V_,V_,V_] 116)):=y6.alloc _;have be:=zfX aG (cl #[V Z a2 a1,G a0,V a3 a5 a4,i_ ((given:Int)+(m:Int)+1),V I L J,V a8 s.length a9,V_,V_,V_,V_] 116);have dM:=y6.size;have cy:=trivial;generalize A6.alloc (cl #[V Z a2 a1,G a0,V a3 a5 a4,i_ ((given:Int)+(m:Int)+1),V I L J,V a8 s.length a9,V_,V_,V_,V_] 116)=aA at *;generalize A6.heap.size=g at *;all_goals
    refine zV kr ⟨rfl,?_⟩ _;clear q cy aB aG;have ck:=zf (fun W (Y:Ext aA W)=>zhH p W ⟨(aa,al,ac),(oa,ol,oc),(pa,pl,pc),(bt,el,ec)⟩ ⟨(Z,a2,a1),⟨a0,a3,a5,a4⟩,(given:Int)+(m:Int)+1⟩ aims k ets ((dI.ext aC).ext Y) x (Zd n aims k r,given+m+1) ⟨be.1.ext Y,be.2.below Y,sp⟩ dS dH);simp only[dL,ExR,CT.val,NT.val,NT.fv,WT.sv,sl3]at ck;have c3:=c2.trans aC;have dz:=(zd.1 aD).1;have eC:=c3.size;have bC:=zf (fun(W:H) (bS:W.heap[gs]? =aA.heap[gs]?) (h0:W.cell? (Xd g 0 O)=E (V Z a2 a1)/\W.cell? (Xd g 1 O)=E (G a0)/\W.cell? (Xd g 2 O)=E (V a3 a5 a4)/\W.cell? (Xd g 3 O)=E (i_ ((given:Int)+(m:Int)+1)))=>
     have qS:=bS.trans (bq.out aA c3).1;Xc (Xc (c_ 4 qS) (Xc (c_ 5 qS) (Xc (c_ 6 qS) (c_ 7 qS)))) h0)
    have ey:=c2.size;have et:gs<g:=by have:=x0.size;omega
    gi_wp2;refine Jc (S:=fun W=>(W.cell? (Xd gs 4 O)=E (V aa al ac)/\W.cell? (Xd gs 5 O)=E (V oa ol oc)/\W.cell? (Xd gs 6 O)=E (V pa pl pc)/\W.cell? (Xd gs 7 O)=E (V bt el ec))/\W.cell? (Xd g 0 O)=E (V Z a2 a1)/\W.cell? (Xd g 1 O)=E (G a0)/\W.cell? (Xd g 2 O)=E (V a3 a5 a4)/\W.cell? (Xd g 3 O)=E (i_ ((given:Int)+(m:Int)+1))) hm (bC.out aA rfl (Xc (c_ 0 aD) (Xc (c_ 1 aD) (Xc (c_ 2 aD) (c_ 3 aD))))) (fun q=>?_);refine tkl [0,1,2,3,4,5] ?_;refine rd1 6 fun K f=>?_;go_simp;refine(ck.out _ (Xe aA).drew).mono ?_;rintro e M ⟨⟨⟨⟨ad,af,ae⟩,⟨an,ap,ao⟩,⟨aq,au,ar⟩,⟨ah,aj,ai⟩⟩,cw,rfl,bQ,_⟩,cI⟩;have z1:=ZG cI;have F:=(z1.block _ dz).trans aD;simp only[CT.val,sl3]at bQ⊢;go_wp2_with fail
    refine f.out _ _ (bC.out M (z1.block _ om) (Xc (c_ 0 F) (Xc (c_ 1 F) (Xc (c_ 2 F) (c_ 3 F))))) (h:=fun q=>?_);clear f K;refine tkl [7,8,9,10] ?_;refine rd1 11 fun K f=>?_;have k6:=c_ 6 F;have k7:=c_ 7 F;have k8:=c_ 8 F;have k9:=c_ 9 F;have f6:=Xh (j:=6) F;have f7:=Xh (j:=7) F;have f8:=Xh (j:=8) F;have f9:=Xh (j:=9) F;have aQ:Wr (fun b=>b=g) M ((((M.setCell (Xd g 6 O) (V ad af ae)).setCell (Xd g 7 O) (V an ap ao)).setCell (Xd g 8 O) (V aq au ar)).setCell (Xd g 9 O) (V ah aj ai)):=((((zv (U:=fun b=>b=g) rfl _).trans (zv (U:=fun b=>b=g) rfl _)).trans (zv (U:=fun b=>b=g) rfl _)).trans (zv (U:=fun b=>b=g) rfl _));have g2:((((M.setCell (Xd g 6 O) (V ad af ae)).setCell (Xd g 7 O) (V an ap ao)).setCell (Xd g 8 O) (V aq au ar)).setCell (Xd g 9 O) (V ah aj ai)).heap[g]? =E (cl #[V Z a2 a1,G a0,V a3 a5 a4,i_ ((given:Int)+(m:Int)+1),V I L J,V a8 s.length a9,V ad af ae,V an ap ao,V aq au ar,V ah aj ai] 116):=qG (i:=9) (v:=V ah aj ai) (qG (i:=8) (v:=V aq au ar) (qG (i:=7) (v:=V an ap ao) (qG (i:=6) (v:=V ad af ae) F)));have cD:∀b,b=g->Off M b:=fun b d=>by
     rw[d];have X:qQ M g 116:=⟨_,_,F⟩;exact⟨⟨⟨fun e=>absurd (e.one X) dc,zE F (by intro cf hu;simp at hu;rcases hu with rfl|rfl|rfl|rfl|rfl|rfl|rfl<;>(intro n e;cases e))⟩,fun e=>absurd (e.one X) dc⟩,fun e=>absurd (e.one X) dc⟩
    have cJ:zcH M aims ⟨⟨(Z,a2,a1),⟨a0,a3,a5,a4⟩,(given:Int)+(m:Int)+1⟩,⟨(I,L,J),(a8,s.length,a9)⟩,⟨(ad,af,ae),(an,ap,ao),(aq,au,ar),(ah,aj,ai)⟩⟩ (Zd n aims k r,given+m+1) (QX n aims k r) k' cw:=
     ⟨⟨be.1.ext z1,be.2.below z1,sp⟩,⟨(cW.below aC).below z1,s,bW.1,((dP.ext aC).ext z1),fun c9 cd bf hp R=>⟨(bW.2 c9 cd bf hp R).1,(((bW.2 c9 cd bf hp R).2.below aC).below z1)⟩⟩,bQ⟩
    have cK:=cJ.wr aQ cD;have d8:=qk (c3.trans z1) aQ (fun b d=>om);have cO:=(aQ.block gs (by have:=z1.size;omega) om).trans (z1.block _ om);have bJ:=aQ.some (((aC.trans z1).block _ (zd.1 bb).1).trans bb) (fun e=>by
     rw[e]at bb;have:=((aC.trans z1).block _ (zd.1 bb).1).trans bb;rw[F]at this;cases this)
    go_simp;refine f.out _ _ (bC.out ((((M.setCell (Xd g 6 O) (V ad af ae)).setCell (Xd g 7 O) (V an ap ao)).setCell (Xd g 8 O) (V aq au ar)).setCell (Xd g 9 O) (V ah aj ai)) cO (Xc (c_ 0 g2) (Xc (c_ 1 g2) (Xc (c_ 2 g2) (c_ 3 g2))))) (h:=fun q=>?_);clear f K;refine zV kr ⟨rfl,?_⟩ _;clear q k6 k7 k8 k9 f6 f7 f8 f9 cJ bQ cI aQ cD cO F;generalize ((((M.setCell (Xd g 6 O) (V ad af ae)).setCell (Xd g 7 O) (V an ap ao)).setCell (Xd g 8 O) (V aq au ar)).setCell (Xd g 9 O) (V ah aj ai))=X2 at *;have m0:=(bq.out X2 d8).2;obtain⟨q0,q1,q2,_,_,_,_,_,_,_⟩:=ten_cells g2;obtain⟨s9,bz,cV,⟨_,z1,_,_,_,_,_,_,_,_⟩,f0,f1,f2,f3,f4,f5,f6,f7,f8,f9⟩:=zpt m0 (V Z a2 a1) (G a0) (V a3 a5 a4) (i_ ((given:Int)+(m:Int)+1)) (V I L J) (V a8 s.length a9) (V ad af ae) (V an ap ao) (V aq au ar) (V ah aj ai);have cL:=cK.wr bz (fun b d=>by rw[d];exact cV);have df:=zf cL;have dr:=zf s9;have ch:=zf (bz.some bJ (fun e=>by rw[e,m0]at bJ;cases bJ));have dv:=zf (qk (x0.trans d8) bz (fun b d=>by rw[d];exact zh _));have dB:w.heap.size<=D':=om;clear cK cL bz m0 g2 s9 cV;gi_wp2;refine qh ch.out ?_;have bU:=zn.putObj (B:=w.heap.size) (.deferred O) dB ch.out rfl;have dZ:=bU.block _ _ dr.out (.inr rfl);obtain⟨j0,j1,j2,j3,j4,j5,j6,j7,j8,j9⟩:=ten_cells dZ;exact⟨ag #[V Z a2 a1,G a0,V a3 a5 a4,i_ ((given:Int)+(m:Int)+1),V I L J,V a8 s.length a9,V ad af ae,V an ap ao,V aq au ar,V ah aj ai],by simp[results,results99,go_sem,j0,j1,j2,j3,j4,j5,j6,j7,j8,j9],⟨⟨(Z,a2,a1),⟨a0,a3,a5,a4⟩,(given:Int)+(m:Int)+1⟩,⟨(I,L,J),(a8,s.length,a9)⟩,⟨(ad,af,ae),(an,ap,ao),(aq,au,ar),(ah,aj,ai)⟩⟩,cw,rfl,df.out.keep bU,bU.below dv.out (zh _) (zh _)⟩
  case stop=>exact fun _ _ _ _ _ _ av _=>av.elim
