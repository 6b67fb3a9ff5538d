import Derived.Test.YtnhokjllhmbaeaaGreatDoorJoi1Z5
import Derived.Test.YtnhokjllhmbaeaaGreatDoorJoi1Z6
import Derived.Test.YtnhokjllhmbaeaaGreatDoorTie
import Derived.Test.YtnhokjllhmbaeaaGreatDoorCards
open Option renaming none->O,some->E
open Go.Value renaming slice->V,bool->G,string->gS,pointer->pn,tuple->tp,int->it,agg->ag
open Go.Obj renaming cells->cl
open Go renaming World->H
open Go.Proofs.Tryz renaming prog->pg
open Go.Proofs.Tryz
open Go.Ending renaming returned->Xa
open Go.IntKind renaming i64->Xb
open Go.Addr renaming mk->Xd
set_option linter.unusedSimpArgs false
set_option linter.unusedVariables false
set_option maxHeartbeats 4000000
set_option maxRecDepth 100000
namespace Go.Proofs.YtnhokjllhmbaeaaGreatDoor
section
open Go.RowKit
variable {w:H}
theorem znC(s:List UInt8)(w:H)(hs:s.length<=1000000):
 Calls pg 183 #[gS ⟨s.toArray⟩,it Xb 40] w fun e w'=>∃b a l c,e=Xa (tp #[ag #[G b,V a l c],G (dOk s)])/\Below w.heap.size w w'/\(dOk s=true->zy w' (ag #[G b,V a l c]) (T.wZ s)):=by
 by_cases h:dOk s=true
 ·obtain⟨d,f,g⟩:=zoy h;refine(zj1 ⟨s.toArray⟩ 40 w om d f g).mono ?_;rintro e w' ⟨_,rfl,d,f⟩;obtain⟨b,a,l,c,rfl,_,_⟩:=d.parts;exact⟨b,a,l,c,by rw[h],f,fun _=>d⟩
 ·have d:dOk s=false:=by simpa using h
  refine(zk4 ⟨s.toArray⟩ 40 w om (by simp[ByteArray.size];omega) d).mono ?_;rintro e w' ⟨b,a,l,c,rfl,f⟩;exact⟨b,a,l,c,by rw[d],f,fun e=>by rw[d]at e;cases e⟩
theorem zgi(s:List UInt8)(q b o:Nat)(z:Int)(w:H)(h:w.cell? (Xd q 0 O)=E (pn (E (Xd b o O))))(a:Q3 w b o z)(f:q≠b)(hs:s.length<=1000000):
 Calls pg 182 #[gS ⟨s.toArray⟩,pn (E (Xd q 0 O))] w fun e w'=>e=Xa (G (dOk s))/\
  ∃w1 x d l c,Below w.heap.size w w1/\w'=(w1.setCell (Xd b o O) (G x)).setCell ⟨b,o+1,O⟩ (V d l c)/\(dOk s=true->zy w1 (ag #[G x,V d l c]) (T.wZ s)):=by
 have m:q<w.heap.size:=zw h;have f:=a.lt;obtain⟨_,_,_,_,r,t,_,j,k⟩:=a;have a:=zf (fun W=>znC s W hs);have i:Hid (∃g,dOk s=g):=⟨_,rfl⟩;obtain⟨g,g⟩:=i.out;rw[g]at a⊢;go_enter func182,ntmps182
 go_wp2;go_region_held (fun W=>W.cell? (Xd q 0 O)=E (pn (E (Xd b o O)))) (first|assumption|((rw[far,far]<;>first|assumption|omega))|go_keep)
  (first|(go_at_call 183;refine(a.out _).mono ?_;rintro e w1 ⟨x,d,l,c,rfl,a,g⟩;have i:=(a.cell (p:=(Xd q 0 O)) m).trans h;have i:=(a.cell (p:=(Xd b o O)) f).trans r;have i:=(a.cell (p:=⟨b,o+1,O⟩) f).trans t;have i:=(a.frozen (p:=(Xd b o O)) f).trans j;have i:=(a.frozen (p:=⟨b,o+1,O⟩) f).trans k))
 go_wp2;go_ret;exact⟨rfl,w1,x,d,l,c,⟨a.os,a.tape,a.output,a.size,a.block⟩,rfl,g⟩
attribute [local go_sem] zD zW qJ
theorem Wr.keep{T:Nat->Prop}{W b:H}(h:Wr T w W)(a:zn w.heap.size W b):Wr T w b:=
 ⟨a.os.trans h.os,a.tape.trans h.tape,a.output.trans h.output,zF h.size a.size,fun k b c=>by
  have d:=h.block k b c;have c:=zK b h.size;rw[<-d,qD c];exact a.block k _ (qD c) (.inl b)⟩
theorem Wr.frozen{T:Nat->Prop}{w':H}(h:Wr T w w'){p:Addr}(b:¬T p.block)(a:p.block<w.heap.size):w'.frozen? p=w.frozen? p:=
 qw (w:=w) (h.block p.block a b)
theorem Wr.new{T:Nat->Prop}{w':H}(h:Wr T w w'){p:Addr}(a:w.heap.size<=p.block)(v:Value):Wr T w (w'.setCell p v):=
 ⟨h.os,h.tape,h.output,by simpa using h.size,fun k a b=>(qC _ _ _ _ om).trans (h.block k a b)⟩
def zdS (m:Nat)(ok:Nat->List UInt8->Bool)(ws:List (List UInt8)):Bool:=decide (ws.length=m/\∀j,j<m->ok j (ws.getD j [])=true)
theorem zqC{s:List UInt8}(k:Nat)(a:k<(Zb s).length):((Zb s).getD k []).length<=s.length:=by
 rw[zk,zg a];exact(znt _ s).2 _ (zJ a)
theorem ziB(s:List UInt8)(hs:s.length<=2000)(L:List Value)(ok:Nat->List UInt8->Bool)(T:Nat->Prop)(C:List (List UInt8)->H->Prop)(g cap:Nat)(w:H)(hT:∀x,T x->x<w.heap.size)(hg:¬T g)(ar:L.length<=1000)(ak:L.length<=cap)(al:cap<=9223372036854775807)(aw:∀i fv,L[i]? =E fv->w.cell? (Xd g i O)=E fv)(hK:∀pre A B,C pre A->zn w.heap.size A B->C pre B)(hS:∀pre A a y v,C pre A->A.cell? a=E y->(∀k,y≠it .u32 k)->w.heap.size<=a.block->C pre (A.setCell a v))(ay:∀k fv,L[k]? =E fv->∃f q,fv= .func (.func f) #[] #[pn (E (Xd q 0 O))]/\(∀args w,(callFunc f args).run pg w= .ok (.enter f args) w)/\
  ∀pre x W,pre.length=k->x.length<=2000->Wr T w W->C pre W->Calls pg f #[gS ⟨x.toArray⟩,pn (E (Xd q 0 O))] W fun e W'=>e=Xa (G (ok k x))/\Wr T W W'/\(ok k x=true->C (pre ++ [x]) W'))(h0:C [] w):
 Calls pg 133 #[gS ⟨s.toArray⟩,V (E (Xd g 0 O)) L.length cap] w fun e w'=>
  e=Xa (G (zdS L.length ok (Zb s)))/\Wr T w w'/\(zdS L.length ok (Zb s)=true->C (Zb s) w'):=by
 obtain⟨m,hm⟩:∃m,L.length=m:=⟨_,rfl⟩;rw[hm]at ar ak⊢;have HS:=zf ay;have HK:=zf hK;have a8:=zf hS;have HR:=zf aw;have HM:=zf hm;have HW:=zf (fun k (t:k<(Zb s).length)=>zF (zqC k t) hs);have HQ:=zf (zoA s om (w.heap.size+2));have ab:=zf hT;obtain⟨b,hws⟩:∃b,Zb s=b:=⟨_,rfl⟩;rw[hws]at HW HQ⊢;refine Q0 func133 ntmps133 (h:=?_);gi_wp2;refine(zq.2 (zqx _ _)).mono ?_;rintro e w1 ⟨rfl,rfl⟩;gi_wp2;have au:∀x,w.heap.size<=x->¬T x:=fun x I ht=>by have:=ab.out x ht;omega
 have NT:=zf au;refine zaW HQ.out rfl (qW func217 kr rfl) (fun v K=>?_)
  (fun k N A=>k<=m/\Hid (∀o,o<k->ok o (b.getD o [])=true)/\C (b.take k) A/\Wr T w A/\
   (∃R r,A.cell? (Xd w.heap.size 0 O)=E (V R (m-k) r)/\(k<m->R=E (Xd g k O))/\m-k<=r/\r<=9223372036854775807)/\A.frozen? (Xd w.heap.size 0 O)=false/\
   A.cell? ⟨w.heap.size+1,0,O⟩=E (G false)/\A.frozen? ⟨w.heap.size+1,0,O⟩=false/\
   A.cell? ⟨w.heap.size+2,0,O⟩=E (gS ⟨s.toArray⟩)/\∀x,N x↔T x\/x=w.heap.size\/x=w.heap.size+1)
  (fun r k A=>r= .ret/\Wr T w A/\A.cell? ⟨w.heap.size+1,0,O⟩=E (G false)/\zdS m ok b=false) (fun x=>T x\/x=w.heap.size\/x=w.heap.size+1) ?hI ?hIx ?hC ?h0 ?round ?done ?stop
 case hI=>
  rintro k N A B ⟨J,F,c,j,⟨R,r,l,Z,h7,h8⟩,X,h,U,P,z⟩ t;have a2:=t.mono (B':=w.heap.size) so;exact⟨J,F,HK.out _ _ _ c a2,j.keep a2,⟨R,r,t.cell l,Z,h7,h8⟩,(t.frozen l).trans X,t.cell h,(t.frozen h).trans U,t.cell P,z⟩
 case hIx=>
  rintro r k A B ⟨J,F,c,j⟩ t;exact⟨J,F.keep (t.mono (B':=w.heap.size) so),t.cell c,j⟩
 case hC=>
  rintro k N A ⟨J,F,c,j,⟨R,r,l,Z,h7,h8⟩,X,h,U,P,z⟩;refine⟨P,fun x I=>?_⟩;rcases(z x).1 I with S|S|S
  ·exact zK (ab.out x S) j.size
  ·rw[S];exact zw l
  ·rw[S];exact zw h
 case h0=>
  refine⟨qo _,fun o hj=>om,HK.out _ _ _ h0 (((zn.alloc _ _ _).trans (zn.alloc _ _ _)).trans (zn.alloc _ _ _)),?_,⟨E (Xd g 0 O),cap,?_,fun _=>rfl,om,al⟩,?_,?_,?_,?_,fun _=>Qb⟩;·exact Xg ((((qf _ w).alloc (zh _) _).alloc sp _).alloc so _)
  ·exact(((ZU w _ _).alloc _).alloc _).cell
  ·exact(((ZU w _ _).alloc _).alloc _).frozen
  ·have:=((ZU (w.alloc (cl #[V (E (Xd g 0 O)) m cap] 226)) 4 (G false)).alloc (cl #[gS ⟨s.toArray⟩] 9)).cell;rwa [zL]at this
  ·have:=((ZU (w.alloc (cl #[V (E (Xd g 0 O)) m cap] 226)) 4 (G false)).alloc (cl #[gS ⟨s.toArray⟩] 9)).frozen;rwa [zL]at this
  ·have:=(ZU ((w.alloc (cl #[V (E (Xd g 0 O)) m cap] 226)).alloc (cl #[G false] 4)) 9 (gS ⟨s.toArray⟩)).cell;rwa [zL,zL]at this
 case round=>
  rintro aB k v N A K ⟨J,F,c,j,⟨R,r,l,Z,h7,h8⟩,X,h,U,P,z⟩;obtain⟨a2,hvx⟩:∃t:k<b.length,v=zgF (b.getD k []):=by
   rw[zR]at K;cases I:b[k]? with
   |none=>rw[I]at K;cases K
   |some x=>
    rw[I]at K;injection K with K
    exact⟨(zo.1 I).1,by rw[<-K,zk,I];rfl⟩
  obtain⟨x,I⟩:∃x,b.getD k []=x:=⟨_,rfl⟩;have aA:=I▸HW.out k a2;rw[I]at hvx;subst hvx;have HX:=zf I;unfold Zz zgF;gi_wp2;refine⟨Xi _ _,fun A2 a0=>?_⟩;have ae:=a0.mono (B':=w.heap.size) so;replace c:=HK.out _ _ _ c ae
  replace j:=j.keep ae
  replace X:=(a0.frozen l).trans X
  replace l:=a0.cell l
  replace U:=(a0.frozen h).trans U
  replace h:=a0.cell h
  replace P:=a0.cell P
  by_cases a4:k<m
  ·obtain rfl:=Z a4;obtain⟨d,hd⟩:∃d,m-k=d+1:=⟨m-k-1,om⟩;rw[hd]at l h7;obtain⟨fv,hfv⟩:∃fv,L[k]? =E fv:=⟨_,zg (by rw[HM.out];exact a4)⟩;obtain⟨f,q,rfl,_,aj⟩:=HS.out k fv hfv;have aG:=j.cell (p:=(Xd g k O)) hg (HR.out k _ hfv);have HC:=zf (aj (b.take k) x A2 (by rw[zX];omega) aA j c);gi_wp2;refine(Zq aB (zq.2 HC.out)).mono ?_;rintro e M ⟨rfl,Q,ax⟩;have p5:=Q.cell (p:=(Xd w.heap.size 0 O)) (NT.out _ (zh _)) l;have p9:=(Q.frozen (p:=(Xd w.heap.size 0 O)) (NT.out _ (zh _)) (zw l)).trans X;have af:=Q.cell (p:=⟨w.heap.size+1,0,O⟩) (NT.out _ sp) h;have aC:=(Q.frozen (p:=⟨w.heap.size+1,0,O⟩) (NT.out _ sp) (zw h)).trans U;have aD:=Q.cell (p:=⟨w.heap.size+2,0,O⟩) (NT.out _ sp) P;have aa:=j.trans Q;by_cases a5:ok k x=true
   ·have ah:=zf (ax a5);have H2:Hid (∀o,o<k+1->ok o (b[o]?.getD [])=true):=by
     intro o hj;rw[<-zk];by_cases aq:o<k
     ·exact F.out o aq
     ·obtain rfl:o=k:=om;rw[HX.out];exact a5
    have az:b.take (k+1)=b.take k ++ [x]:=by
     rw[ZB,<-HX.out,zk,zg a2];rfl
    have ai:=zf az;have ap:∀(D:Option Addr) (u:Nat),(0<d->D=E ⟨g,k+1,O⟩)->d<=u->u<=9223372036854775807->
     Wr N A2 (M.setCell (Xd w.heap.size 0 O) (V D d u))/\C (b.take (k+1)) (M.setCell (Xd w.heap.size 0 O) (V D d u))/\Wr T w (M.setCell (Xd w.heap.size 0 O) (V D d u))/\
     (M.setCell (Xd w.heap.size 0 O) (V D d u)).cell? (Xd w.heap.size 0 O)=E (V D (m-(k+1)) u)/\
     (M.setCell (Xd w.heap.size 0 O) (V D d u)).frozen? (Xd w.heap.size 0 O)=false/\
     (M.setCell (Xd w.heap.size 0 O) (V D d u)).cell? ⟨w.heap.size+1,0,O⟩=E (G false)/\
     (M.setCell (Xd w.heap.size 0 O) (V D d u)).frozen? ⟨w.heap.size+1,0,O⟩=false/\
     (M.setCell (Xd w.heap.size 0 O) (V D d u)).cell? ⟨w.heap.size+2,0,O⟩=E (gS ⟨s.toArray⟩):=by
     intro D u aE aF a9;refine⟨(Q.mono fun y Y=>(z y).2 (.inl Y)).setCell (p:=(Xd w.heap.size 0 O)) ((z _).2 (.inr (.inl rfl))) _,?_,aa.new (p:=(Xd w.heap.size 0 O)) (zh _) _,?_,by simpa using p9,?_,by simpa using aC,?_⟩
     ·rw[ai.out];exact a8.out _ _ ⟨w.heap.size,0,O⟩ _ _ ah.out p5 sp (zh _)
     ·rw[zN _ _ _ p5];rw[show m-(k+1)=d by omega]
     ·rw[far om];exact af
     ·rw[far om];exact aD
    have HF:=zf ap;gi_wp2
    ·obtain rfl:d=0:=om;obtain⟨f1,f2,f3,f4,f5,f6,f7,f8⟩:=HF.out (E (Xd g k O)) 0 om om om;exact⟨f1,N,⟨om,H2,f2,f3,⟨_,_,f4,om,om,om⟩,f5,f6,f7,f8,z⟩,fun y Y=> .inl Y⟩
    ·obtain⟨f1,f2,f3,f4,f5,f6,f7,f8⟩:=HF.out (E ⟨g,k+1,O⟩) (r-1) (fun _=>rfl) om om;exact⟨f1,N,⟨om,H2,f2,f3,⟨_,_,f4,fun _=>rfl,om,om⟩,f5,f6,f7,f8,z⟩,fun y Y=> .inl Y⟩
   ·have av:ok k x=false:=by simpa using a5
    gi_wp2;refine⟨?_,rfl,?_,?_,?_⟩;·exact(Q.mono fun y Y=>(z y).2 (.inl Y)).setCell (p:=⟨w.heap.size+1,0,O⟩) ((z _).2 (.inr (.inr rfl))) _
    ·exact aa.new (p:=⟨w.heap.size+1,0,O⟩) sp _
    ·exact zN _ _ _ af
    ·refine J2 fun hh=>?_
     have:=hh.2 k a4;rw[HX.out,av]at this;cases this
  ·obtain rfl:k=m:=om;rw[Qn]at l;gi_wp2;refine⟨?_,rfl,?_,?_,?_⟩;·exact(Xi _ _).setCell (p:=⟨w.heap.size+1,0,O⟩) ((z _).2 (.inr (.inr rfl))) _
   ·exact j.new (p:=⟨w.heap.size+1,0,O⟩) sp _
   ·exact zN _ _ _ h
   ·exact J2 fun hh=>om
 case done=>
  rintro a6 N A hD ⟨J,F,c,j,⟨R,r,l,Z,h7,h8⟩,X,h,U,P,z⟩ hd;rw[zm]at J F c l Z h7;have an:zdS m ok b=(((m-b.length:Nat):Int) == 0):=by
   rw[zcr,zdS,Z9,beq_iff_eq];constructor
   ·intro S;omega
   ·intro S;have he:b.length=m:=om;exact⟨he,fun o hj=>F.out o om⟩
  have a7:=zf an;gi_wp2;have ad:(A.setCell ⟨w.heap.size+1,0,O⟩ (G (((m-b.length:Nat):Int) == 0))).heap[a6]? =E (.deferred (E [])):=(qC _ _ _ _ (by simp at hD;simp;omega)).trans hd;have a1:zn w.heap.size (A.setCell ⟨w.heap.size+1,0,O⟩ (G (((m-b.length:Nat):Int) == 0))) _:=zn.putObj (.deferred O) (by simp at hD;omega) ad rfl;have a3:=a1.cell (zN A ⟨w.heap.size+1,0,O⟩ (G (((m-b.length:Nat):Int) == 0)) h);refine qh ad ?_;refine⟨G (((m-b.length:Nat):Int) == 0),by simp[results,results133,go_sem,a3],by rw[a7.out],(j.new (p:=⟨w.heap.size+1,0,O⟩) sp _).keep a1,fun hf=>?_⟩;rw[a7.out]at hf;have he:b.length=m:=by simp at hf;omega
  have a9:C b A:=by rw[zP (zh _)]at c;exact c
  exact HK.out _ _ _ (a8.out _ _ ⟨w.heap.size+1,0,O⟩ _ _ a9 h sp sp) a1
 case stop=>
  rintro a6 r k A hD t ⟨rfl,J,F,c⟩ hd;gi_wp2;have a1:zn w.heap.size A _:=zn.putObj (.deferred O) (by simp at hD;omega) hd rfl;have a3:=a1.cell F;refine qh hd ?_;exact⟨G false,by simp[results,results133,go_sem,a3],by rw[c],J.keep a1,fun hf=>by rw[c]at hf;cases hf⟩
 ·obtain⟨i,_,rfl⟩:=qP.1 K;rfl
end

section
open Go.RowKit
variable {a:Addr}{b g:Nat}{w w':H}{z:Int}{zs:List Int}
def Whs (w:H)(b:Nat)(zs:List Int):Prop:=qK w b/\∀j,j<zs.length->Q3 w b (2*j) (zs.getD j 0)
theorem Whs.lt(h:Whs w b zs):b<w.heap.size:=by
 obtain⟨_,a,_⟩:=h.1.1;exact(zd.1 a).1
theorem Whs.keep{B:Nat}(h:Whs w b zs)(a:zn B w w'):Whs w' b zs:=
 ⟨h.1.keep a,fun j c=>(h.2 j c).keep a⟩
theorem Whs.below(h:Whs w b zs)(hb:Below w.heap.size w w'):Whs w' b zs:=h.keep (B:=0) (zn.of_below hb)
theorem Q3.setCell{o:Nat}(h:Q3 w b o z){y:Value}(m:w.cell? a=E y)(l:∀k,y≠it .u32 k)(hb:a.block≠b)(v:Value):Q3 (w.setCell a v) b o z:=by
 obtain⟨x,c,p,d,e,f,g,i,j⟩:=h;exact⟨x,c,p,d,(qj _ _ _ _ hb).trans e,(qj _ _ _ _ hb).trans f,g.setCell m l v,by simpa using i,by simpa using j⟩
theorem qK.far(h:qK w b)(hb:a.block≠b)(v:Value):qK (w.setCell a v) b:=
 h.same (qC _ _ _ _ (fun e=>hb e.symm))
theorem Whs.setCell(h:Whs w b zs){y:Value}(e:w.cell? a=E y)(d:∀k,y≠it .u32 k)(hb:a.block≠b)(v:Value):Whs (w.setCell a v) b zs:=
 ⟨h.1.far hb v,fun j c=>(h.2 j c).setCell e d hb v⟩
theorem Q3.wr{T:Nat->Prop}{o:Nat}(h:Q3 w b o z)(a:Wr T w w')(hb:¬T b)(m:∀k,T k->qK w k):Q3 w' b o z:=by
 have c:=h.lt;obtain⟨x,d,q,e,f,g,i,j,l⟩:=h;exact⟨x,d,q,e,a.cell hb f,a.cell hb g,i.wr a m,(a.frozen (p:=(Xd b o O)) hb c).trans j,(a.frozen (p:=⟨b,o+1,O⟩) hb c).trans l⟩
theorem Whs.wr{T:Nat->Prop}(h:Whs w b zs)(a:Wr T w w')(hb:¬T b)(d:∀k,T k->qK w k):Whs w' b zs:=
 ⟨h.1.wr a hb,fun j c=>(h.2 j c).wr a hb d⟩
theorem Whs.put{j:Nat}{x:Bool}{a:Option Addr}{l c:Nat}(h:Whs w b zs)(f:j<zs.length)(g:zy w (ag #[G x,V a l c]) z):
 Whs ((w.setCell ⟨b,2*j,O⟩ (G x)).setCell ⟨b,2*j+1,O⟩ (V a l c)) b (zs.set j z):=by
 obtain⟨_,d,o,e,k,m,_⟩:=h.2 j f;refine⟨?_,fun i a=>?_⟩
 ·have f:(w.setCell ⟨b,2*j,O⟩ (G x)).cell? ⟨b,2*j+1,O⟩=E (V d o e):=by
   rw[zA _ _ _ _ (by intro e;injection e with _ d;omega)];exact m
  exact(h.1.setCell k sp).setCell f sp
 ·rw[qX]at a;by_cases d:i=j
  ·subst d;have e:(zs.set i z).getD i 0=z:=by simp[zk,a]
   rw[e];exact(h.2 i a).put h.1 g
  ·have e:(zs.set j z).getD i 0=zs.getD i 0:=by simp[zk,zal (Qr d)]
   rw[e];exact(h.2 i a).other h.1 om
theorem zig(x:List UInt8)(q b j o:Nat)(zs:List Int)(w:H)(h:w.cell? (Xd q 0 O)=E (pn (E (Xd b o O))))(ho:o=2*j)(d:Whs w b zs)(c:j<zs.length)(a:q≠b)(f:x.length<=2000):
 Calls pg 182 #[gS ⟨x.toArray⟩,pn (E (Xd q 0 O))] w fun e w'=>e=Xa (G (dOk x))/\Wr (fun k=>k=b) w w'/\(dOk x=true->Whs w' b (zs.set j (T.wZ x))):=by
 subst ho;refine(zgi x q b (2*j) _ w h (d.2 j c) a om).mono ?_;rintro e w' ⟨rfl,_,_,_,_,_,a,rfl,g⟩;refine⟨rfl,((Xg (T:=fun k=>k=b) a).setCell (p:=⟨b,2*j,O⟩) rfl _).setCell (p:=⟨b,2*j+1,O⟩) rfl _,fun f=>?_⟩;exact(d.below a).put c (g f)
def zbh (pos:Nat->Nat):Nat->List Int->List (List UInt8)->List Int
 |_,zs,[]=>zs
 |k,zs,x::r=>zbh pos (k+1) (zs.set (pos k) (T.wZ x)) r
theorem zhp(a:Nat->Nat)(x:List UInt8):∀(r:List (List UInt8)) (k:Nat) (zs:List Int),zbh a k zs (r ++ [x])=(zbh a k zs r).set (a (k+r.length)) (T.wZ x)
 |[],k,zs=>by simp[zbh]
 |y::r,k,zs=>by
  rw[ZZ,zbh,zhp a x r,zbh,qi,show k+1+r.length=k+(r.length+1)by omega]
theorem zeh(a:Nat->Nat):∀(r:List (List UInt8)) (k:Nat) (zs:List Int),(zbh a k zs r).length=zs.length
 |[],_,_=>rfl
 |_::r,k,zs=>by rw[zbh,zeh a r,qX]
theorem zkx{m:Nat}{cs:Array Value}{t:TypeId}(h:w.heap[g]? =E (cl cs t (0,0)))(hs:cs.size=2*m)(b:∀j,j<m->cs[2*j]? =E (G false)/\cs[2*j+1]? =E (V O 0 0)):Whs w g (List.replicate m 0):=by
 refine⟨zE h fun v c=>?_,fun j a=>?_⟩
 ·obtain⟨i,d,rfl⟩:=Array.mem_iff_getElem.1 (by simpa using c:v∈cs);have c:=b (i/2) om;rcases Nat.mod_two_eq_zero_or_one i with e|e
  ·have:=c.1;rw[show 2*(i/2)=i by omega,qD d]at this;injection this with this
   rw[this];intro n e;cases e
  ·have:=c.2;rw[show 2*(i/2)+1=i by omega,qD d]at this;injection this with this
   rw[this];intro n e;cases e
 ·rw[zbz]at a;have e:(List.replicate m (0:Int)).getD j 0=0:=by simp[zk,zcS,a]
  rw[e];refine⟨false,O,0,0,?_,?_,⟨false,_,rfl,Xm _ _ _,by rw[Hid];rfl⟩,ZK w g _ cs t h,ZK w g _ cs t h⟩;·rw[ze w g _ cs t _ h];exact(b j a).1
  ·rw[ze w g _ cs t _ h];exact(b j a).2
theorem zje{n size:Nat}{e:TypeId}{z:Array Value}(h:w.ownsRow 0 e size (V (E (Xd g 0 O)) n n) n (madeCells z (n*size)).toList):w.heap[g]? =E (cl (madeCells z (n*size)) e (0,0)):=by
 obtain⟨_,c|⟨_,_,_,b,_,d,_,_,_,a⟩⟩:=h;·exact absurd c.1 sp
 ·simp only[qp,qN,Jg]at b;obtain⟨⟨rfl,_,_⟩,_,rfl⟩:=b;rw[zP so]at a;rw[d];congr 2
  exact Array.toList_inj.1 a
theorem zei{z:Array Value}{m j:Nat}(h:j<m):(madeCells z m)[j]? =E (z[j%z.size]!):=by
 simp[madeCells,h]
theorem zoC{n:Nat}{e:TypeId}(h:w.ownsRow 0 e 6 (V (E (Xd g 0 O)) n n) n (madeCells #[G false,V O 0 0,G false,V O 0 0,G false,V O 0 0] (n*6)).toList):Whs w g (List.replicate (3*n) 0):=by
 refine zkx (zje h) (by rw[size_madeCells];omega) fun j a=>⟨?_,?_⟩
 ·rw[zei om];have:(2*j)%(#[G false,V O 0 0,G false,V O 0 0,G false,V O 0 0]:Array Value).size=0\/(2*j)%(#[G false,V O 0 0,G false,V O 0 0,G false,V O 0 0]:Array Value).size=2\/(2*j)%(#[G false,V O 0 0,G false,V O 0 0,G false,V O 0 0]:Array Value).size=4:=so;rcases this with e|e|e<;>(rw[e];rfl)
 ·rw[zei om];have:(2*j+1)%(#[G false,V O 0 0,G false,V O 0 0,G false,V O 0 0]:Array Value).size=1\/(2*j+1)%(#[G false,V O 0 0,G false,V O 0 0,G false,V O 0 0]:Array Value).size=3\/(2*j+1)%(#[G false,V O 0 0,G false,V O 0 0,G false,V O 0 0]:Array Value).size=5:=so;rcases this with e|e|e<;>(rw[e];rfl)
theorem zeK(w:H)(a b c d:Obj):((((w.alloc a).alloc b).alloc c).alloc d).heap[w.heap.size]? =E a/\((((w.alloc a).alloc b).alloc c).alloc d).heap[w.heap.size+1]? =E b/\((((w.alloc a).alloc b).alloc c).alloc d).heap[w.heap.size+1+1]? =E c/\((((w.alloc a).alloc b).alloc c).alloc d).heap[w.heap.size+1+1+1]? =E d:=by
 have h:(w.alloc a).heap.size=w.heap.size+1:=zL _ _;have i:((w.alloc a).alloc b).heap.size=w.heap.size+1+1:=by rw[zL,h]
 have k:(((w.alloc a).alloc b).alloc c).heap.size=w.heap.size+1+1+1:=by rw[zL,i]
 have j:=qR w a;have e:=qR (w.alloc a) b;have f:=qR ((w.alloc a).alloc b) c;have g:=qR (((w.alloc a).alloc b).alloc c) d;rw[h]at e;rw[i]at f;rw[k]at g;refine⟨?_,?_,?_,g⟩;·rw[qH _ _ _ om,qH _ _ _ om,qH _ _ _ om];exact j
 ·rw[qH _ _ _ om,qH _ _ _ om];exact e
 ·rw[qH _ _ _ om];exact f
theorem Tryz.infoColumn:(Tryz.prog.info? 110).map (fun i=>(i.zero,i.size,i.bytes))=E (E (ag #[G false,V O 0 0,G false,V O 0 0,G false,V O 0 0]),6,96):=by kernel_rfl
theorem Tryz.infoWhole:(Tryz.prog.info? 75).map (fun i=>(i.zero,i.size,i.bytes))=E (E (ag #[G false,V O 0 0]),2,32):=by kernel_rfl
theorem Tryz.infoRow:(Tryz.prog.info? 169).map (fun i=>(i.zero,i.size,i.bytes))=E (E (ag #[gS ⟨#[]⟩,G false,V O 0 0,V O 0 0]),4,72):=by kernel_rfl
end

namespace T
open Go.RowKit
theorem set_block {w:H}{g i:Nat}{v:Value}{cs:Array Value}{t:TypeId}{a:Nat×Nat}(h:w.heap[g]? =E (cl cs t a)):(w.setCell (Xd g i O) v).heap[g]? =E (cl (cs.setIfInBounds i v) t a):=by
 unfold World.setCell;simp only[zby,zbu,h,qY];rfl
theorem frozen_row {w:H}{g j:Nat}{cs:Array Value}{t:TypeId}(h:w.heap[g]? =E (cl cs t)):w.frozen? (Xd g j O)=false:=by
 simp[World.frozen?,h]
theorem two_new (w:H)(a b:Obj):((w.alloc a).alloc b).heap[w.heap.size]? =E a/\((w.alloc a).alloc b).heap[w.heap.size+1]? =E b:=by
 have e:(w.alloc a).heap.size=w.heap.size+1:=sp;refine⟨(qH _ _ _ om).trans (zC w a),?_⟩;have:=zC (w.alloc a) b;rwa [e]at this
end T
abbrev Xj:=@T.two_new
abbrev Xh:=@T.frozen_row
abbrev Xk:=@T.set_block

section
open Go.RowKit
variable {B N g k size:Nat}{C:H->Prop}{U:Nat->Prop}{X Y w w':H}{a:List (List Value)}{t:TypeId}{v x:Value}{zs:List Int}
def Jf (w:H)(v:Value)(zs:List Int):Prop:=
 ∃ao cap,v=V ao zs.length cap/\(0<zs.length->∃g off,ao=E (Xd g off O)/\g<w.heap.size/\∀(i:Nat) (z:Int),zs[i]? =E z->w.cell? ⟨g,off+i,O⟩=E (it Xb z))
theorem Jf.ext(h:Jf w v zs)(hb:Ext w w'):Jf w' v zs:=by
 obtain⟨a,b,rfl,c⟩:=h;refine⟨a,b,rfl,fun a=>?_⟩;obtain⟨g,off,rfl,d,b⟩:=c a;exact⟨g,off,rfl,zK d hb.size,fun i z a=>hb.cell (b i z a)⟩
theorem zdR(z:Int)(h:z.natAbs<10^10):(ByteArray.mk (Lib.itoa z).toArray).size<=11:=by
 rw[zfg];have a:=zbS 10 _ h om;unfold Lib.itoa;split
 ·simp;omega
 ·rw[show z.toNat=z.natAbs by omega];omega
theorem zm3(w:H)(v:Value)(zs:List Int)(x:Jf w v zs)(y:∀z∈zs,z.natAbs<10^10)(K:zs.length<=1000)(u:Tab w):
 Calls pg 16 #[v] w fun e w'=>e=Xa (gS ⟨(QF zs).toArray⟩)/\Below w.heap.size w w':=by
 obtain⟨_,_,rfl,s⟩:=x;have m:=zf y;have k:=zf s;go_enter func16,ntmps16
 go_wp2;go_loopw [3,4] (fun sv d wr=>∃(i:Nat) (a:ByteArray),i<=zs.length/\sv=gS a/\d=it Xb (i:Nat)/\a.size<=i*12/\Hid (a=⟨(QF (zs.take i)).toArray⟩)/\Ext w wr) (fun _ d _=>((zs.length:Int)-intOf d).toNat)
 case atStart=>exact⟨0,⟨#[]⟩,om,rfl,rfl,qo _,rfl,Xe _⟩
 case round=>
  obtain⟨i,a,_,rfl,rfl,_,f,b⟩:=hrel;by_cases c:i<zs.length
  ·obtain⟨_,off,rfl,_,r⟩:=k.out om;have A:=zg c;have q:=m.out _ (zJ c);have C:=b.cell (r i _ A);have L:=zdR _ q;have l:Hid (a++⟨#[32]⟩++⟨(Lib.itoa zs[i]).toArray⟩=⟨(QF (zs.take (i+1))).toArray⟩):=by
    have e:(⟨#[32]⟩:ByteArray)=⟨([32]:List UInt8).toArray⟩:=rfl;rw[Hid,f.out,e,ZP,ZP,ZQ c];simp only[QF,ZX,Qo,JP,ZR,Zl,ZZ,Q7]
   generalize zs[i]=z at *;have M:(10:Nat)^10=10000000000:=dc;have j:=zf (fun W (o:Ext wr W)=>zef z om om W ((u.below b).below o));generalize ByteArray.mk (Lib.itoa z).toArray=g at *;have F:¬9223372036854775807<a.size+1:=om;have I:¬9223372036854775806<a.size:=om;have J:¬9223372036854775807<a.size+1+g.size:=om;have t:(a++⟨#[32]⟩++g).size<=(i+1)*12:=by
    have D:(ByteArray.mk #[32]).size=1:=rfl;simp only[zbC];omega
   have B:=Xe wr;go_wp2_with fail
   refine(j.out _ B).mono ?_;rintro e N ⟨rfl,p⟩;go_wp2;go_roundw
   case rel=>exact⟨i+1,_,om,rfl,by go_num,t,l,b.trans p⟩
   case measure=>simp[intOf];omega
  ·obtain rfl:i=zs.length:=om;have h:Hid (a=⟨(QF zs).toArray⟩):=by
    rw[Hid,f.out,Zx]
   go_wp2;go_ret;exact⟨by rw[<-h.out];rfl,b⟩
theorem zlm{l:List UInt8}(h:dOk l=true):(T.wZ l).natAbs<10^40:=by
 have a:(T.wZ l).natAbs=ZE (Lib.trimPrefix l [45]):=by
  unfold T.wZ sg;split<;>simp
 rw[a];exact T.okD_ten h
theorem zoD{a:List (List UInt8)}(h:a.all dOk=true):∀z∈a.map T.wZ,z.natAbs<10^40:=by
 intro z b;obtain⟨l,a,rfl⟩:=qP.1 b;exact zlm (Zi.1 h l a)
structure zbU (i:Nat)(p:qF):Prop where
 z:i=0->p=qF.none
 n:0<i->0<p.n/\p.n<=4
 r:i<=2+p.n->p.rows= []
 l:p.rows.length<=6
 g:p.rg.length=min (i-2) p.n
 m:2<=i->p.mx.length=p.n
 c:∀x∈p.rows,x.1.length=p.n/\jO x.2.1=true
 bm:∀z∈p.mx,z.natAbs<10^40
 bg:∀r∈p.rg,r.1.natAbs<10^40/\r.2.natAbs<10^40
 br:∀x∈p.rows,(∀z∈x.1,z.natAbs<10^40)/\x.2.2.natAbs<10^40
theorem zbU.start:zbU 0 qF.none:=by
 refine⟨fun _=>rfl,fun h=>om,fun _=>rfl,by simp[qF.none],by simp[qF.none],fun h=>om,fun x a=>by simp[qF.none]at a,fun x a=>by simp[qF.none]at a,fun x a=>by simp[qF.none]at a,fun x a=>by simp[qF.none]at a⟩
theorem zlN(a:List (List UInt8)):T.varsN a<=4:=by
 unfold T.varsN;split
 ·exact T.varB_le _
 ·omega
theorem zbU.step{i:Nat}{p q:qF}{g:List (List UInt8)}(h:zbU i p)(a:jD i p g=E q):zbU (i+1) q:=by
 unfold jD at a;by_cases k:i=0
 ·rw[zQ k]at a;subst k;by_cases r:T.varsN g=0
  ·rw[zQ r]at a;cases a
  ·rw[zO r]at a;injection a with a
   subst a;exact⟨fun h=>om,fun _=>⟨Z3 r,zlN g⟩,fun _=>rfl,sp,sp,fun h=>om,fun x b=>by simp at b,fun x b=>by simp at b,fun x b=>by simp at b,fun x b=>by simp at b⟩
 ·rw[zO k]at a;have o:=h.n om;by_cases l:i=1
  ·rw[zQ l]at a;subst l;split at a
   ·rename_i c
    injection a with a
    subst a;have m:=h.g;refine⟨fun h=>om,fun _=>o,fun _=>h.r om,h.l,by simpa using m,fun _=>?_,h.c,zoD c.2.2,h.bg,h.br⟩;simp only[zm,Za];omega
   ·cases a
  ·rw[zO l]at a;by_cases s:i<=1+p.n
   ·rw[zQ s]at a;split at a
    ·rename_i c
     injection a with a
     subst a;have m:=h.g;refine⟨fun h=>om,fun _=>o,fun _=>h.r om,h.l,?_,fun _=>h.m om,h.c,h.bm,fun v u=>?_,h.br⟩
     ·simp only[zM,ZH];omega
     ·rcases zU.1 u with e|e
      ·exact h.bg v e
      ·obtain rfl:=qg.1 e;obtain⟨j,d,f,rfl⟩:∃j d f,g= [j,d,f]:=by
        match g,c.1 with
        |[j,d,f],_=>exact⟨j,d,f,rfl⟩
       have t:dOk d=true/\dOk f=true:=by simpa using c.2.2
       exact⟨zlm t.1,zlm t.2⟩
    ·cases a
   ·rw[zO s]at a;split at a
    ·rename_i c
     injection a with a
     subst a;have m:=h.g;refine⟨fun h=>om,fun _=>o,fun h=>?_,?_,?_,fun _=>h.m om,fun x b=>?_,h.bm,h.bg,fun x b=>?_⟩;·simp only at h;omega
     ·simp only[zM,ZH];omega
     ·simp only;omega
     ·rcases zU.1 b with e|e
      ·exact h.c x e
      ·obtain rfl:=qg.1 e;refine⟨?_,c.2.2.2.2.1⟩;simp only[zm,zX,Za];omega
     ·rcases zU.1 b with e|e
      ·exact h.br x e
      ·obtain rfl:=qg.1 e;exact⟨zoD c.2.2.2.1,zlm c.2.2.2.2.2⟩
    ·cases a
def JY (s:List UInt8):Except (Nat×Nat) qF:=
 if 2000<s.length then .error (4,0)
 else match ju 0 qF.none (QW s)with
  |.error k=> .error (5,k)
  |.ok p=>if (QW s).length<2+p.n then .error (5,(QW s).length+1)else match zao 0 p.rg with
   |some i=> .error (6,i+3)
   |.none=> .ok p
theorem zy.shape{z:Int}(h:zy w x z):∃t:WT,x=t.val:=by
 obtain⟨b,a,l,c,rfl,-,-⟩:=h.parts;exact⟨⟨b,(a,l,c)⟩,rfl⟩
theorem zbV(K:Nat)(a:K<=1073741800):zfj K:=zqe K om (znB K a)
theorem zcL{b j:Nat}{u v0 v1 v2:Value}(c:b≠g)(h:w.cell? (Xd b j O)=E u):(((w.setCell (Xd g 0 O) v0).setCell (Xd g 1 O) v1).setCell (Xd g 2 O) v2).cell? (Xd b j O)=E u:=by
 rw[Zj (w:=w) (a:=⟨b,j,O⟩)];·exact h
 ·exact(qC _ _ _ _ so).trans ((qC _ _ _ _ so).trans (qC _ _ _ _ so))
theorem ZG{W w1:H}(h:Below W.drew.heap.size W.drew w1):Ext W w1:=⟨h.os,h.tape,h.output,h.size,h.block⟩
theorem zej{P:Program}{n l:Nat}{f:Array Oper}{Q:Exit->Act->H->Prop}(b:¬LetsOut Q):∀(os:List Oper) (a:Act) (w:H),(∀o∈os,∀c,o.op≠ .defer c)->wpList P f Q os a w->wpListIn (Fence.wide.inRound l) n P f Q os a w
 |[],a,w,_,h=>h
 |o::rest,a,w,d,h=>by
  unfold wpList at h;unfold wpListIn;split
  ·rename_i e
   rw[zQ e]at h;rcases h with h|h
   ·refine⟨fun _ _=>trivial,?_⟩;rw[Oper.semAt_eq _ _ _ (d o qA)];exact zhj (fun a w h=>zej b rest a w (fun o ho=>d o (qq _ ho)) h) h
   ·exact absurd h.2 b
  ·rename_i e
   rw[zO e]at h;exact⟨fun _ _=>trivial,zej b rest _ _ (fun o ho=>d o (qq _ ho)) h⟩
theorem Qt{P:Program}{n l id:Nat}{b:Array Oper}{Q:Exit->Act->H->Prop}{a:Act}(d:b.toList.all (fun o=>match o.op with|.defer _=>false|_=>true)=true)(c:¬LetsOut Q)(h:wpList P b Q b.toList a w):(Code.region id b false).wpIn (Fence.wide.inRound l) n P Q a w:=by
 refine wpIn_region_list (zej c _ _ _ (fun o c b b=>?_) h);have:=Zi.1 d o c;rw[b]at this;cases this
def qQ (w:H)(k:Nat)(t:TypeId):Prop:=∃cs fr,w.heap[k]? =E (cl cs t fr)
theorem qQ.lt(h:qQ w k t):k<w.heap.size:=by
 obtain⟨cs,_,h⟩:=h;exact(zd.1 h).1
theorem qQ.keep(h:qQ w k t)(b:zn B w w'):qQ w' k t:=by
 obtain⟨cs,a,h⟩:=h;exact⟨cs,a,b.block k _ h (.inr rfl)⟩
theorem qQ.same(h:qQ w k t)(b:w'.heap[k]? =w.heap[k]?):qQ w' k t:=by
 obtain⟨cs,a,h⟩:=h;exact⟨cs,a,b.trans h⟩
theorem qQ.one{b:TypeId}(h:qQ w k t)(a:qQ w k b):t=b:=by
 obtain⟨cs,_,h⟩:=h;obtain⟨_,_,a⟩:=a;rw[h]at a;simp only[qN,Obj.cells.injEq]at a;exact a.2.1
def ZS (w:H)(t:TypeId)(v:Value)(size:Nat)(css:List (List Value)):Prop:=
 (v=V O 0 0/\css= [])\/∃g off cap,v=V (E (Xd g off O)) css.length cap/\css.length<=cap/\qQ w g t/\∀(i:Nat) (cs:List Value),css[i]? =E cs->∀(j:Nat) (u:Value),cs[j]? =E u->w.cell? ⟨g,off+i*size+j,O⟩=E u
theorem ZS.recs(h:ZS w t v size a):T.Recs w v size a:=by
 rcases h with h|⟨g,off,a,b,c,d,e⟩
 ·exact Or.inl h
 ·exact Or.inr ⟨g,off,a,b,c,d.lt,e⟩
theorem ZS.shape(h:ZS w t v size a):∃b cap,v=V b a.length cap:=h.recs.shape
theorem ZS.keep(h:ZS w t v size a)(b:zn B w w'):ZS w' t v size a:=by
 rcases h with h|⟨g,off,a,c,d,e,f⟩
 ·exact Or.inl h
 ·exact Or.inr ⟨g,off,a,c,d,e.keep b,fun i cs a j u c=>b.cell (f i cs a j u c)⟩
theorem ZS.ext(h:ZS w t v size a)(b:Ext w w'):ZS w' t v size a:=h.keep (B:=0) (zn.of_below b)
theorem ZS.wr(h:ZS w t v size a)(c:Wr U w w')(j:∀k,U k->¬qQ w k t):ZS w' t v size a:=by
 rcases h with h|⟨g,off,d,f,i,a,l⟩
 ·exact Or.inl h
 ·have b:¬U g:=fun e=>j g e a
  exact Or.inr ⟨g,off,d,f,i,a.same (c.block g a.lt b),fun i cs a j u d=>c.cell (p:=⟨g,off+i*size+j,O⟩) b (l i cs a j u d)⟩
theorem Qa.keep{p:Int}{q:Nat}(h:Qa w x p q)(a:zn B w w'):Qa w' x p q:=by
 obtain⟨b,v,u,c,d,e,f,g⟩:=h;exact⟨b,v,u,c,d.keep a,e,f.keep a,g⟩
theorem Qa.wr{p:Int}{q:Nat}(h:Qa w x p q)(b:Wr U w w')(a:∀k,U k->qK w k):Qa w' x p q:=by
 obtain⟨c,v,u,d,e,f,g,i⟩:=h;exact⟨c,v,u,d,e.wr b a,f,g.wr b a,i⟩
def Zo (w:H)(v:Value)(zs:List Int):Prop:=
 ∃ts:List WT,ts.length=zs.length/\ZS w 75 v 2 (ts.map WT.cells)/\∀(i:Nat) (t:WT) (z:Int),ts[i]? =E t->zs[i]? =E z->zy w t.val z
theorem Zo.keep(h:Zo w v zs)(a:zn B w w'):Zo w' v zs:=by
 obtain⟨e,b,c,d⟩:=h;exact⟨e,b,c.keep a,fun i t z b c=>(d i t z b c).keep a⟩
theorem Zo.ext(h:Zo w v zs)(a:Ext w w'):Zo w' v zs:=h.keep (B:=0) (zn.of_below a)
theorem Zo.wr(h:Zo w v zs)(c:Wr U w w')(b:∀k,U k->¬qQ w k 75/\qK w k):Zo w' v zs:=by
 obtain⟨f,a,d,e⟩:=h;exact⟨f,a,d.wr c (fun k a=>(b k a).1),fun i t z d f=>(e i t z d f).wr c (fun k a=>(b k a).2)⟩
structure Grw (B:Nat)(t:TypeId)(size:Nat)(w:H)(v:Value)(css:List (List Value)):Prop where
 own:w.ownsRow B t size v css.length css.flatten
 dig:∀g,v.ownBlock=E g->qK w g
 siz:∀cs∈css,cs.length=size
theorem Grw.nil(B:Nat)(t:TypeId)(size:Nat)(w:H):Grw B t size w (V O 0 0) []:=⟨zaf _ _ _ _,(fun g h=>by cases h),(fun cs h=>by cases h)⟩
abbrev Xr:=@Grw.nil
theorem Grw.type(h:Grw B t size w v a):∀g,v.ownBlock=E g->qQ w g t/\B<=g:=by
 intro g a;obtain⟨_,b|⟨_,_,_,e,c,d,_⟩⟩:=h.own;·rw[b.1]at a;cases a
 ·rw[e]at a;simp[Value.ownBlock]at a;subst a;exact⟨⟨_,_,d⟩,c⟩
theorem Grw.shape{b:List (List Value)}(h:Grw B t size w v b):∃a c,v=V a b.length c:=by
 obtain⟨_,b|⟨_,_,_,d,_⟩⟩:=h.own;·exact⟨O,0,by rw[b.1,b.2]⟩
 ·exact⟨_,_,d⟩
theorem Grw.list(h:Grw B t size w v a):ZS w t v size a:=by
 have a:=T.recs_of_owns h.own h.siz;rcases a with a|⟨g,off,c,b,d,_,e⟩
 ·exact Or.inl a
 ·exact Or.inr ⟨g,off,c,b,d,(h.type g (by rw[b];rfl)).1,e⟩
theorem Grw.keep{C:Nat}(h:Grw B t size w v a)(b:zn C w w'):Grw B t size w' v a:=by
 refine⟨?_,fun g a=>(h.dig g a).keep b,h.siz⟩;obtain⟨a,e|⟨g,c,d,o,k,l,m,f,i,j⟩⟩:=h.own;·exact⟨a,Or.inl e⟩
 ·exact⟨a,Or.inr ⟨g,c,d,o,k,b.block g _ l (.inr rfl),m,f,i,j⟩⟩
theorem Grw.ext(h:Grw B t size w v a)(b:Ext w w'):Grw B t size w' v a:=h.keep (C:=0) (zn.of_below b)
theorem Grw.same(h:Grw B t size w v a)(hs:w.heap.size<=w'.heap.size)(b:∀g,v.ownBlock=E g->w'.heap[g]? =w.heap[g]?):Grw B t size w' v a:=
 ⟨T.owns_same h.own hs b,fun g a=>(h.dig g a).same (b g a),h.siz⟩
theorem Grw.more{cs:List Value}{cap:Nat}(h:Grw B t size w v a)(b:cs.length=size)(ho:w'.ownsRow B t size (V (E (Xd g 0 O)) (a.length+1) cap) (a.length+1) (a.flatten++cs))(c:qK w' g):Grw B t size w' (V (E (Xd g 0 O)) (a.length+1) cap) (a ++ [cs]):=by
 refine⟨?_,fun k d=>?_,fun x a=>?_⟩
 ·rw[zM,ZH,<-T.flat_snoc];exact ho
 ·have e:g=k:=by simpa[Value.ownBlock]using d
  rw[<-e];exact c
 ·rcases zU.1 a with a|a
  ·exact h.siz x a
  ·rw[qg.1 a];exact b
def Jt (N:Nat)(C:H->Prop):Prop:=∀A B:H,C A->(∀(k:Nat) (o:Obj),k<N->A.heap[k]? =E o->o.isCells=true->B.heap[k]? =E o)->C B
theorem Jt.keep(h:Jt N C)(a:C X)(b:zn B X Y):C Y:=h X Y a (fun k o _ c a=>b.block k o c (.inr a))
theorem Jt.wr(h:Jt N C)(a:C X)(c:Wr U X Y)(b:∀k,U k->N<=k):C Y:=h X Y a (fun k o a a _=>c.some a (fun e=>by have:=b k e;omega))
theorem Jt.below(h:Jt N C)(a:C X)(hb:Ext X Y):C Y:=h.keep (B:=0) a (zn.of_below hb)
theorem Jt.mono{a:Nat}(h:Jt N C)(c:N<=a):Jt a C:=fun A B a b=>h A B a (fun k o a=>b k o (zK a c))
theorem rec_new(w:H)(cs:List Value)(t:TypeId):∀(j:Nat) (u:Value),cs[j]? =E u->(w.alloc (cl cs.toArray t)).cell? ((⟨w.heap.size,0,O⟩:Addr).add j)=E u:=by
 intro j u h;exact World.news_of_block (zC w (cl cs.toArray t)) j u (by simpa using h)
theorem Qh{row:Option Nat}(hg:w.grownBy w' row)(c:∀g,row=E g->U g):Wr U w w':=
 ⟨hg.os,hg.tape,hg.output,hg.size,fun k a b=>hg.block k a (fun e=>b (c k e.symm))⟩
theorem zv{i:Nat}(hg:U g)(v:Value):Wr U w (w.setCell (Xd g i O) v):=(Xi U w).setCell (p:=(Xd g i O)) hg v
theorem zqD{tb:TypeId}{gb:Nat}{A A4:H}{css:List (List Value)}{cs:List Value}{cap:Nat}{fr:Nat×Nat}{o:Obj}(hG:Grw B t size A v css)(hc:cs.length=size)(ho:A4.ownsRow B t size (V (E (Xd g 0 O)) (css.length+1) cap) (css.length+1) (css.flatten++cs))(hd:qK A4 g)(hg:(A.alloc o).grownBy A4 v.ownBlock)(hb:A.heap[gb]? =E (cl #[v] tb fr))(hB:gb<B)(hat:v.ownBlock=E g\/g=(A.alloc o).heap.size):
 Wr (fun b=>b=gb\/v.ownBlock=E b) A (A4.setCell (Xd gb 0 O) (V (E (Xd g 0 O)) (css.length+1) cap))/\
 (A4.setCell (Xd gb 0 O) (V (E (Xd g 0 O)) (css.length+1) cap)).heap[gb]? =E (cl #[V (E (Xd g 0 O)) (css.length+1) cap] tb fr)/\
 Grw B t size (A4.setCell (Xd gb 0 O) (V (E (Xd g 0 O)) (css.length+1) cap)) (V (E (Xd g 0 O)) (css.length+1) cap) (css ++ [cs])/\
 (∀k,k=gb\/(V (E (Xd g 0 O)) (css.length+1) cap).ownBlock=E k->(k=gb\/v.ownBlock=E k)\/A.heap.size<=k):=by
 have hlt:=(zd.1 hb).1;have e4:=(hg.block gb so (fun e=>by have:=(hG.type gb e.symm).2;omega)).trans ((qH _ _ _ hlt).trans hb);have hgB:=(ho.lt g rfl).1;refine⟨?_,?_,?_,?_⟩;·exact((Xg ((Xe A).alloc o)).trans (Qh hg (fun k hk=>Or.inr hk))).trans (zv (Or.inl rfl) _)
 ·rw[Xk e4];rfl
 ·refine(hG.ext ((Xe A).alloc o)).more hc ho hd |>.same sp (fun k hk=>?_)
  have e:g=k:=by simpa[Value.ownBlock]using hk
  exact qC _ _ _ _ so
 ·rintro k (rfl|hk);·exact .inl (.inl rfl)
  ·have e:g=k:=by simpa[Value.ownBlock]using hk
   subst e;rcases hat with h|h
   ·exact .inl (.inr h)
   ·exact .inr (by rw[h];simp)
attribute [local go_sem] zD zW qJ
structure NT where
 f:Option Addr×Nat×Nat
 t:WT
 num:Int
def NT.fv (t:NT):Value:=V t.f.1 t.f.2.1 t.f.2.2
def NT.val (t:NT):Value:=ag #[t.fv,G t.t.b,t.t.sv,it Xb t.num]
def NT.cells (t:NT):List Value:= [t.fv,G t.t.b,t.t.sv,it Xb t.num]
structure ET where
 n:NT
 l:Option Addr×Nat×Nat
def ET.lv (t:ET):Value:=V t.l.1 t.l.2.1 t.l.2.2
def ET.val (t:ET):Value:=ag #[t.n.fv,G t.n.t.b,t.n.t.sv,it Xb t.n.num,t.lv]
def ET.cells (t:ET):List Value:= [t.n.fv,G t.n.t.b,t.n.t.sv,it Xb t.n.num,t.lv]
structure LT where
 o:Option Addr×Nat×Nat
 p:Option Addr×Nat×Nat
def LT.ov (t:LT):Value:=V t.o.1 t.o.2.1 t.o.2.2
def LT.pv (t:LT):Value:=V t.p.1 t.p.2.1 t.p.2.2
def LT.val (t:LT):Value:=ag #[t.ov,t.pv]
def LT.cells (t:LT):List Value:= [t.ov,t.pv]
structure PT where
 num:Int
 t:WT
def PT.val (t:PT):Value:=ag #[it Xb t.num,G t.t.b,t.t.sv]
def PT.cells (t:PT):List Value:= [it Xb t.num,G t.t.b,t.t.sv]
theorem zgj(ts:List NT)(g:Option Addr)(cap j:Nat)(Q:ts.length<=1000000):
 Ja pg 94 #[pn (E (Xd j 0 O))] ts.length (fun k v _=>∃t,ts[k]? =E t/\v=#[t.val]) (fun W=>W.cell? (Xd j 0 O)=E (V g ts.length cap)/\T.Recs W (V g ts.length cap) 4 (ts.map NT.cells)):=by
 intro R J L f W B N p C o;have P:=(p 0 f W o).1.1;have r:=zf p;have s:=zf C;refine zcW func94 ntmps94 (h:=?_);gi_wp2;gi_loopw [7] (fun i wr=>∃(k:Nat) (M:Nat->Prop),i=it Xb (k:Int)/\k<=ts.length/\J k M wr/\W.heap.size<=wr.heap.size) (fun i _=>ts.length-(intOf i).toNat)
 case atStart=>exact⟨0,f,rfl,qo _,o,zh _⟩
 case round=>
  obtain⟨k,M,rfl,_,c,_⟩:=hrel;by_cases a:k<ts.length
  ·have q:=zg a;obtain⟨_,off,rfl,_,D⟩:=(r.out k M wr c).1.2.at (by intro m;rw[QB]at m;rw[m]at a;simp at a);have b:=D k _ (by rw[zR,q];rfl);have e:=zf (fun x I=>s.out k #[(NT.val ts[k])] M x a ⟨_,q,rfl⟩ I);generalize ts[k]=t at *;obtain⟨⟨fa,_,_⟩,⟨_,⟨_,_,_⟩⟩,_⟩:=t;have l:=b 0 _ rfl;have y:=b 1 _ rfl;have z:=b 2 _ rfl;have A:=b 3 _ rfl;rw[qV]at l;simp only[NT.cells,NT.fv,WT.sv]at l y z A;simp only[NT.val,NT.fv,WT.sv]at e;gi_wp2;refine jr (e.out _ (B _ _ _ _ c (zn.alloc _ _ _))) ?_ ?_
   ·rintro w ⟨K,u,d,_⟩;gi_wp2;go_roundw
    case rel=>exact⟨k+1,u,sp,a,d,by have:=K.size;simp at this;omega⟩
    case measure=>simp[intOf];omega
   ·intro w d;gi_wp2;refine zH (qI rfl _ _ _) rfl ?_;exact⟨⟨_,rfl⟩,.inr ⟨k,a,d.2⟩⟩
  ·gi_wp2;go_end0
   have F:k=ts.length:=om;subst F;exact⟨⟨_,rfl⟩,.inl ⟨M,c⟩⟩
theorem zgZ(a:Option Addr)(l c:Nat)(w:H):
 Calls pg 48 #[V a l c] w fun e w'=>e=Xa (.func (.func 94) #[] #[pn (E (Xd w.heap.size 0 O))])/\w'=w.alloc (cl #[V a l c] 93):=by
 go_enter func48,ntmps48
 have a:=jR;go_wp2;go_ret;exact⟨rfl,rfl⟩
theorem zcs(ts:List ET)(g:Option Addr)(cap j:Nat)(R:ts.length<=1000000):
 Ja pg 194 #[pn (E (Xd j 0 O))] ts.length (fun k v _=>∃t,ts[k]? =E t/\v=#[t.val]) (fun W=>W.cell? (Xd j 0 O)=E (V g ts.length cap)/\T.Recs W (V g ts.length cap) 5 (ts.map ET.cells)):=by
 intro S J N f W C P p D o;have Q:=(p 0 f W o).1.1;have r:=zf p;have s:=zf D;refine zcW func194 ntmps194 (h:=?_);gi_wp2;gi_loopw [7] (fun i wr=>∃(k:Nat) (M:Nat->Prop),i=it Xb (k:Int)/\k<=ts.length/\J k M wr/\W.heap.size<=wr.heap.size) (fun i _=>ts.length-(intOf i).toNat)
 case atStart=>exact⟨0,f,rfl,qo _,o,zh _⟩
 case round=>
  obtain⟨k,M,rfl,_,c,_⟩:=hrel;by_cases a:k<ts.length
  ·have q:=zg a;obtain⟨_,off,rfl,_,F⟩:=(r.out k M wr c).1.2.at (by intro m;rw[QB]at m;rw[m]at a;simp at a);have b:=F k _ (by rw[zR,q];rfl);have e:=zf (fun x K=>s.out k #[(ET.val ts[k])] M x a ⟨_,q,rfl⟩ K);generalize ts[k]=t at *;obtain⟨⟨⟨fa,_,_⟩,⟨_,⟨_,_,_⟩⟩,_⟩,⟨_,_,_⟩⟩:=t;have l:=b 0 _ rfl;have y:=b 1 _ rfl;have z:=b 2 _ rfl;have A:=b 3 _ rfl;have B:=b 4 _ rfl;rw[qV]at l;simp only[ET.cells,NT.fv,WT.sv,ET.lv]at l y z A B;simp only[ET.val,NT.fv,WT.sv,ET.lv]at e;gi_wp2;refine jr (e.out _ (C _ _ _ _ c (zn.alloc _ _ _))) ?_ ?_
   ·rintro w ⟨L,u,d,_⟩;gi_wp2;go_roundw
    case rel=>exact⟨k+1,u,sp,a,d,by have:=L.size;simp at this;omega⟩
    case measure=>simp[intOf];omega
   ·intro w d;gi_wp2;refine zH (qI rfl _ _ _) rfl ?_;exact⟨⟨_,rfl⟩,.inr ⟨k,a,d.2⟩⟩
  ·gi_wp2;go_end0
   have I:k=ts.length:=om;subst I;exact⟨⟨_,rfl⟩,.inl ⟨M,c⟩⟩
theorem zj6(a:Option Addr)(l c:Nat)(w:H):
 Calls pg 154 #[V a l c] w fun e w'=>e=Xa (.func (.func 194) #[] #[pn (E (Xd w.heap.size 0 O))])/\w'=w.alloc (cl #[V a l c] 85):=by
 go_enter func154,ntmps154
 have a:=jR;go_wp2;go_ret;exact⟨rfl,rfl⟩
theorem zjf(ts:List LT)(a:Option Addr)(cap b:Nat)(c:ts.length<=1000000):
 Ja pg 167 #[pn (E (Xd b 0 O))] ts.length (fun k v _=>∃t,ts[k]? =E t/\v=#[t.val]) (fun W=>W.cell? (Xd b 0 O)=E (V a ts.length cap)/\T.Recs W (V a ts.length cap) 2 (ts.map LT.cells)):=by
 intro l J a a W j b c d b;have e:=(c 0 a W b).1.1;have e:=zf c;have f:=zf d;refine zcW func167 ntmps167 (h:=?_);gi_wp2;gi_loopw [7] (fun i wr=>∃(k:Nat) (M:Nat->Prop),i=it Xb (k:Int)/\k<=ts.length/\J k M wr/\W.heap.size<=wr.heap.size) (fun i _=>ts.length-(intOf i).toNat)
 case atStart=>exact⟨0,a,rfl,qo _,b,zh _⟩
 case round=>
  obtain⟨k,M,rfl,_,b,_⟩:=hrel;by_cases a:k<ts.length
  ·have d:=zg a;obtain⟨_,off,rfl,_,c⟩:=(e.out k M wr b).1.2.at (by intro e;rw[QB]at e;rw[e]at a;simp at a);have e:=c k _ (by rw[zR,d];rfl);have c:=zf (fun g i=>f.out k #[(LT.val ts[k])] M g a ⟨_,d,rfl⟩ i);generalize ts[k]=t at *;obtain⟨⟨fa,_,_⟩,⟨_,_,_⟩⟩:=t;have d:=e 0 _ rfl;have f:=e 1 _ rfl;rw[qV]at d;simp only[LT.cells,LT.ov,LT.pv]at d f;simp only[LT.val,LT.ov,LT.pv]at c;gi_wp2;refine jr (c.out _ (j _ _ _ _ b (zn.alloc _ _ _))) ?_ ?_
   ·rintro e ⟨f,d,c,_⟩;gi_wp2;go_roundw
    case rel=>exact⟨k+1,d,sp,a,c,by have:=f.size;simp at this;omega⟩
    case measure=>simp[intOf];omega
   ·intro e c;gi_wp2;refine zH (qI rfl _ _ _) rfl ?_;exact⟨⟨_,rfl⟩,.inr ⟨k,a,c.2⟩⟩
  ·gi_wp2;go_end0
   have a:k=ts.length:=om;subst a;exact⟨⟨_,rfl⟩,.inl ⟨M,b⟩⟩
theorem zj7(a:Option Addr)(l c:Nat)(w:H):
 Calls pg 118 #[V a l c] w fun e w'=>e=Xa (.func (.func 167) #[] #[pn (E (Xd w.heap.size 0 O))])/\w'=w.alloc (cl #[V a l c] 94):=by
 go_enter func118,ntmps118
 have a:=jR;go_wp2;go_ret;exact⟨rfl,rfl⟩
theorem zk6(ts:List PT)(g:Option Addr)(cap j:Nat)(P:ts.length<=1000000):
 Ja pg 208 #[pn (E (Xd j 0 O))] ts.length (fun k v _=>∃t,ts[k]? =E t/\v=#[t.val]) (fun W=>W.cell? (Xd j 0 O)=E (V g ts.length cap)/\T.Recs W (V g ts.length cap) 3 (ts.map PT.cells)):=by
 intro Q J K f W A L p B o;have N:=(p 0 f W o).1.1;have r:=zf p;have s:=zf B;refine zcW func208 ntmps208 (h:=?_);gi_wp2;gi_loopw [7] (fun i wr=>∃(k:Nat) (M:Nat->Prop),i=it Xb (k:Int)/\k<=ts.length/\J k M wr/\W.heap.size<=wr.heap.size) (fun i _=>ts.length-(intOf i).toNat)
 case atStart=>exact⟨0,f,rfl,qo _,o,zh _⟩
 case round=>
  obtain⟨k,M,rfl,_,c,_⟩:=hrel;by_cases a:k<ts.length
  ·have q:=zg a;obtain⟨_,off,rfl,_,C⟩:=(r.out k M wr c).1.2.at (by intro m;rw[QB]at m;rw[m]at a;simp at a);have b:=C k _ (by rw[zR,q];rfl);have e:=zf (fun x F=>s.out k #[(PT.val ts[k])] M x a ⟨_,q,rfl⟩ F);generalize ts[k]=t at *;obtain⟨_,⟨_,⟨_,_,_⟩⟩⟩:=t;have l:=b 0 _ rfl;have y:=b 1 _ rfl;have z:=b 2 _ rfl;rw[qV]at l;simp only[PT.cells,WT.sv]at l y z;simp only[PT.val,WT.sv]at e;gi_wp2;refine jr (e.out _ (A _ _ _ _ c (zn.alloc _ _ _))) ?_ ?_
   ·rintro w ⟨I,u,d,_⟩;gi_wp2;go_roundw
    case rel=>exact⟨k+1,u,sp,a,d,by have:=I.size;simp at this;omega⟩
    case measure=>simp[intOf];omega
   ·intro w d;gi_wp2;refine zH (qI rfl _ _ _) rfl ?_;exact⟨⟨_,rfl⟩,.inr ⟨k,a,d.2⟩⟩
  ·gi_wp2;go_end0
   have D:k=ts.length:=om;subst D;exact⟨⟨_,rfl⟩,.inl ⟨M,c⟩⟩
theorem zlO(a:Option Addr)(l c:Nat)(w:H):
 Calls pg 172 #[V a l c] w fun e w'=>e=Xa (.func (.func 208) #[] #[pn (E (Xd w.heap.size 0 O))])/\w'=w.alloc (cl #[V a l c] 80):=by
 go_enter func172,ntmps172
 have a:=jR;go_wp2;go_ret;exact⟨rfl,rfl⟩
structure RW where
 f:Option Addr×Nat×Nat
 t:WT
def RW.fv (r:RW):Value:=V r.f.1 r.f.2.1 r.f.2.2
def RW.val (r:RW):Value:=ag #[r.fv,G r.t.b,r.t.sv]
def QG (w:H)(r:RW)(x:List Int×Int):Prop:=Zo w r.fv x.1/\zy w r.t.val x.2
theorem QG.keep{r:RW}{x:List Int×Int}(h:QG w r x)(a:zn B w w'):QG w' r x:=⟨h.1.keep a,h.2.keep a⟩
theorem QG.ext{r:RW}{x:List Int×Int}(h:QG w r x)(a:Ext w w'):QG w' r x:=h.keep (B:=0) (zn.of_below a)
theorem QG.wr{r:RW}{x:List Int×Int}(h:QG w r x)(b:Wr U w w')(a:∀k,U k->¬qQ w k 75/\qK w k):QG w' r x:=⟨h.1.wr b a,h.2.wr b (fun k b=>(a k b).2)⟩
theorem zbW:(Tryz.prog.info? 75).map (fun i=>(i.zero,i.size,i.bytes))=E (E (ag #[G false,V O 0 0]),2,32):=kr
def zjg (w:H)(C:H->Prop)(xs:List Int)(k:Nat)(M:Nat->Prop)(A:H):Prop:=
 C A/\Below w.heap.size w A/\w.heap.size<A.heap.size/\k<=xs.length/\∃(v:Value) (ts:List WT) (fr:Nat×Nat),ts.length=k/\A.heap[w.heap.size]? =E (cl #[v] 69 fr)/\A.frozen? (Xd w.heap.size 0 O)=false/\Grw (w.heap.size+1) 75 2 A v (ts.map WT.cells)/\(∀(i:Nat) (t:WT) x,ts[i]? =E t->xs[i]? =E x->zy A t.val x)/\∀b,M b↔b=w.heap.size\/v.ownBlock=E b
theorem zjh(g:Nat)(lb:Array Value)(xs:List Int)(a0:Nat->Array Value->H->Prop)(C:H->Prop)(ai:Ja pg g lb xs.length a0 C)(eg:∀args w,(callFunc g args).run pg w= .ok (.enter g args) w)(hY:∀k v W x,xs[k]? =E x->a0 k v W->∃t:WT,v=#[t.val]/\zy W t.val x)(ax:∀k v W,a0 k v W->v.size=1)(hn:xs.length<=100000)(w:H)(hC:C w)(hL:Jt w.heap.size C):
 Calls pg 153 #[V O 0 0,.func (.func g) #[] lb] w fun e w'=>∃(v:Value) (ts:List WT),e=Xa v/\ts.length=xs.length/\ZS w' 75 v 2 (ts.map WT.cells)/\(∀(i:Nat) (t:WT) x,ts[i]? =E t->xs[i]? =E x->zy w' t.val x)/\(∀g,v.ownBlock=E g->w.heap.size<=g)/\Below w.heap.size w w':=by
 obtain⟨i0,az,aD,aE,aF⟩:=Zn zbW;have HC:=zf hC;have au:=zf ai;have HY:=zf hY;have X:=zf hL;clear hC ai hY hL;obtain⟨a9,aa⟩:=new1 w (cl #[V O 0 0] 69);have hstop:∀a5:Prop,Hid a5->a5:=fun a5 h=>h
 refine Q0 func153 ntmps153 (h:=?_);gi_wp2;generalize al:World.alloc _ _=w0 at *;have aj:w0.heap.size=w.heap.size+1:=by rw[<-al];simp
 have Y:=zf aj;clear al aj;refine ZT au.out rfl eg ax
  (zjg w C xs)
  (fun _ _ _=>False) (fun b=>b=w.heap.size) ?hI ?hIx ?hC ?h0 ?round ?done ?stop
 case hI=>
  rintro k P A aq ⟨D,F,I,Z,v,ts,u,j,f,Q,c,y,p⟩ z;have aB:zn w.heap.size A aq:=z.mono (by have:=Y.out;omega);refine⟨X.out.keep D z,aB.below F (zh _) (zh _),zK I z.size,Z,v,ts,u,j,z.block _ _ f (.inr rfl),?_,c.keep z,fun i t x l J=>?_,p⟩;·exact(qw (w:=A) (a:=⟨w.heap.size,0,O⟩) ((z.block _ _ f (.inr rfl)).trans f.symm)).trans Q
  ·exact(y i t x l J).keep z
 case hIx=>exact fun _ _ _ _ h _=>h
 case hC=>
  rintro k P A ⟨D,F,I,Z,v,ts,u,j,f,Q,c,y,p⟩;refine⟨D,fun b a=>?_⟩;rcases(p b).1 a with rfl|a
  ·exact I
  ·exact(c.type b a).1.lt
 case h0=>exact⟨X.out.below HC.out aa,aa,by have:=Y.out;omega,qo _,V O 0 0,[],(0,0),rfl,a9,Xh a9,Xr _ _ _ _,(fun i t x h=>by simp at h),fun b=>by simp[Value.ownBlock]⟩
 case round=>
  rintro aI k av P A af ay ⟨D,F,I,Z,v,ts,u,j,f,Q,c,y,p⟩;obtain⟨x,J⟩:∃x,xs[k]? =E x:=⟨_,zg af⟩;obtain⟨⟨L,K,N,M⟩,rfl,ak⟩:=HY.out k av A x J ay;have aw:=zf ak;clear ak;obtain⟨m,o,rfl⟩:=c.shape;rw[zm]at f c p;have U:=zf j;have aH:ts.length<=100000:=om;clear j;simp only[WT.val,WT.sv];unfold Zz;gi_wp2;refine⟨Xg ((Xe A).alloc _),fun d ae=>?_⟩;have s:=(zn.alloc _ _ _).trans ae;have B:=s.block _ _ f (.inr rfl);have c0:=c_ 0 B;have f2:=(qw (w:=A) (a:=⟨w.heap.size,0,O⟩) (B.trans f.symm)).trans Q;have e0:=ae.block _ _ (zC A (cl #[G L,V K N M] 75)) (.inr rfl);have d0:=c_ 0 e0;have d1:=c_ 1 e0;have S:=c.keep s;have G3:=S.ext ((Xe d).alloc (cl #[G L,V K N M] 75));have aC:=zK I s.size;have a4:=G3.own;rw[zm]at a4;have ab:=G3.dig;clear e0;refine ZW ?_;refine Qt (by rfl) (fun⟨_,w,h⟩=>h) ?_;go_wp2_with (at_builtin;refine hstop _ ?_)
  unfold Hid;refine JI _ rfl _ _ 69 rfl (w.heap.size+1) 75 i0 (ag #[G false,V O 0 0]) 2 32 underlying69 az aD aE aF rfl dc (V m ts.length o) ts.length (ts.map WT.cells).flatten rfl a4 ⟨d.heap.size,0,O⟩ 1 1 [G L,V K N M] rfl rfl (rec_new d [G L,V K N M] 75) (by intro ap q;simp only[zI,zY,Zp]at q;rcases q with rfl|rfl<;>rfl) om mo om so (d.heap.size+1) sp (by intro ap q;simp[Value.cells]at q;rcases q with rfl|rfl<;>(intro n e;cases e)) (by intro ap q;simp only[zI,zY,Zp]at q;rcases q with rfl|rfl<;>(intro n e;cases e)) ab ?_;intro g4 a1 R an a2 a7 lt4 a8;have b4:=(a2.block _ so (fun e=>by have:=(c.type _ e.symm).2;omega)).trans ((qH _ _ _ aC).trans B);have c4:=c_ 0 b4;have f4:=(qw (w:=d) (a:=⟨w.heap.size,0,O⟩) (b4.trans B.symm)).trans f2;have a6:=S;have ao:R.ownsRow (w.heap.size+1) 75 2 (V (E (Xd g4 0 O)) ((ts.map WT.cells).length+1) a1) ((ts.map WT.cells).length+1) ((ts.map WT.cells).flatten ++ [G L,V K N M]):=by rw[zm];exact an
  obtain⟨r,q2,q3,q4⟩:=zqD (gb:=w.heap.size) a6 rfl ao a8 a2 B om (by simpa using a7);rw[zm]at r q2 q3 q4;have HF:Hid (ZL P (zjg w C xs) (fun _ _ _=>False) k A d .normal { tmps:=#[],defers:= [] } (R.setCell (Xd w.heap.size 0 O) (V (E (Xd g4 0 O)) (ts.length+1) a1))):=by
   have ah:∀b,b=w.heap.size\/(V m ts.length o).ownBlock=E b->qK d b:=by
    rintro b (rfl|a);·exact zE B n1
    ·exact S.dig b a
   have hM:=p;refine⟨r.mono (fun b a=>(hM b).2 a),fun b=>b=w.heap.size\/(V (E (Xd g4 0 O)) (ts.length+1) a1).ownBlock=E b,⟨X.out.wr (X.out.keep D s) r (fun b a=>?_),?_,?_,af,_,ts ++ [⟨L,K,N,M⟩],u,by rw[zM,ZH,U.out],q2,?_,by rw[Z6];exact q3,fun i t aG l hy=>?_,fun b=>Qb⟩,fun b a=>?_⟩
   ·rcases a with rfl|a
    ·exact zh _
    ·have:=(c.type b a).2;omega
   ·exact((s.mono (by have:=Y.out;omega)).below F (zh _) (zh _)).trans (r.below om (fun b a=>by
     rcases a with rfl|a
     ·exact zh _
     ·have:=(c.type b a).2;omega))
   ·have:=r.size;omega
   ·simpa using f4
   ·by_cases aA:i<ts.length
    ·rw[zS aA]at l;exact((y i t aG l hy).keep s).wr r ah
    ·have ad:i=ts.length:=by
      have:=(zo.1 l).1;simp at this;omega
     rw[ad,U.out,J]at hy;rw[ad,zG (zh _),Qn]at l;have e1:=Q8 hy;have e2:=Q8 l;subst e1 e2;exact(aw.out.keep s).wr r ah
   ·rcases q4 b a with h|h
    ·exact .inl ((hM b).2 h)
    ·exact .inr (zF s.size h)
  clear an a2 a7 lt4 a8 ao r q2 q3 q4 a6 S G3 c y p a4 ab b4;go_wp2_with fail
  exact HF.out
 case done=>
  rintro ar P A hD ⟨D,F,I,Z,v,ts,u,j,f,Q,c,y,p⟩ hd;obtain⟨m,o,rfl⟩:=c.shape;have e:(ts.map WT.cells).length=xs.length:=by rw[zm];exact j
  rw[e]at f c;have U:=zf j;clear e j;have c0:=c_ 0 f;gi_wp2;refine qh hd ?_;have a3:zn w0.heap.size A (A.putObj ar (.deferred O)):=zn.putObj _ hD hd rfl;exact⟨V m xs.length o,results_tmp (t:=4) rfl _ _ _,V m xs.length o,ts,rfl,U.out,(c.list).keep a3,fun i t x l J=>(y i t x l J).keep a3,fun g hg=>zF (Nat.le_succ _) (c.type g hg).2,(a3.mono (by have:=Y.out;omega)).below F (zh _) (zh _)⟩
 case stop=>exact fun _ _ _ _ _ _ h _=>h.elim
theorem zg0(g:Nat)(a:Array Value)(xs:List Int)(Y:Nat->Array Value->H->Prop)(C:H->Prop)(j:Ja pg g a xs.length Y C)(b:∀args w,(callFunc g args).run pg w= .ok (.enter g args) w)(f:∀k v W x,xs[k]? =E x->Y k v W->∃t:WT,v=#[t.val]/\zy W t.val x)(h:∀k v W,Y k v W->v.size=1)(m:xs.length<=100000)(w:H)(c:C w)(d:Jt w.heap.size C):
 Calls pg 89 #[.func (.func g) #[] a] w fun e w'=>∃(v:Value) (ts:List WT),e=Xa v/\ts.length=xs.length/\ZS w' 75 v 2 (ts.map WT.cells)/\(∀(i:Nat) (t:WT) x,ts[i]? =E t->xs[i]? =E x->zy w' t.val x)/\(∀g,v.ownBlock=E g->w.heap.size<=g)/\Below w.heap.size w w':=by
 have l:=zf (zjh g a xs Y C j b f h m w c d);clear j b f h c d;go_enter func89,ntmps89
 go_wp2_with fail
 refine l.out.mono ?_;rintro e a ⟨v,ts,rfl,b,a,c,d,j⟩;have f:=zf b;have h:=zf c;obtain⟨l,m,rfl⟩:=a.shape;rw[zm]at a d;clear b c;go_wp2;go_ret;exact⟨V l ts.length m,ts,rfl,f.out,a,h.out,d,j⟩
end

section
open Go.RowKit
structure zdT (w:H)(g:Nat)(lb:Array Value)(zs:List Int) where
 Y:Nat->Array Value->H->Prop
 C:H->Prop
 seq:Ja pg g lb zs.length Y C
 ent:∀args w,(callFunc g args).run pg w= .ok (.enter g args) w
 val:∀k v W x,zs[k]? =E x->Y k v W->∃t:WT,v=#[t.val]/\zy W t.val x
 one:∀k v W,Y k v W->v.size=1
 now:C w
 old:Jt w.heap.size C
def zdT.ext {w w':H}{g:Nat}{lb:Array Value}{zs:List Int}(h:zdT w g lb zs)(hx:Ext w w'):zdT w' g lb zs:=⟨h.Y,h.C,h.seq,h.ent,h.val,h.one,h.old.below h.now hx,h.old.mono hx.size⟩
theorem zce {w:H}{g h:Nat}(hg:g=h)(a b c:Value):Wr (fun k=>k=h) w (((w.setCell (Xd g 0 O) a).setCell (Xd g 1 O) b).setCell (Xd g 2 O) c):=
 ((zv (U:=fun k=>k=h) hg a).trans (zv (U:=fun k=>k=h) hg b)).trans (zv (U:=fun k=>k=h) hg c)
theorem zky (w:H)(g:Nat)(b:Array Value)(zs:List Int)(h:zdT w g b zs)(d:zs.length<=100000):
 Calls pg 81 #[.func (.func g) #[] b] w fun e w'=>∃f:Option Addr×Nat×Nat,e=Xa (ag #[V f.1 f.2.1 f.2.2])/\Zo w' (V f.1 f.2.1 f.2.2) zs/\(∀g,(V f.1 f.2.1 f.2.2).ownBlock=E g->w.heap.size<=g)/\Below w.heap.size w w':=by
 obtain⟨j,m⟩:=new1 w (cl #[V O 0 0] 71);have a:=h.ext m;have c:=zf (zg0 g b zs a.Y a.C a.seq a.ent a.val a.one d _ a.now a.old);clear a h;go_enter func81,ntmps81
 go_wp2_with fail
 generalize World.alloc _ _=k at *;refine c.out.mono ?_;rintro e c ⟨_,b,rfl,o,a,p,l,q⟩;obtain⟨d,i,rfl⟩:=a.shape;rw[zm]at a l;have r:=Xf q;have k:=(r.block _ (zd.1 j).1).trans j;have t:=c_ 0 k;have j:=Xh (j:=0) k;have u:Wr (fun j=>j=w.heap.size) c (c.setCell (Xd w.heap.size 0 O) (V d b.length i)):=zv (U:=fun j=>j=w.heap.size) rfl _;have s:Hid (Zo (c.setCell (Xd w.heap.size 0 O) (V d b.length i)) (V d b.length i) zs):=by
  refine Zo.wr ⟨b,o,a,p⟩ u (fun j j=>?_);subst j;exact⟨fun j=>absurd (j.one ⟨_,_,k⟩) dc,zE k n1⟩
 have k:Below w.heap.size w (c.setCell (Xd w.heap.size 0 O) (V d b.length i)):=Below.setCell (m.trans r) (zh _) _;have c:=zf l;have j:=zf m.size;clear o a p l q;go_wp2;exact zH (v:=ag #[V d b.length i]) (by simp[results,results81,go_sem,t]) rfl ⟨(d,b.length,i),rfl,s.out,fun g a=>zF j.out (c.out g a),k⟩
theorem zfO (w:H)(g:Nat)(x:Array Value)(zs:List Int)(h:zdT w g x zs)(Y:zs.length<=100000)(m:WT)(y:Int)(hm:zy w m.val y):
 Calls pg 148 #[.func (.func g) #[] x,m.val] w fun e w'=>∃r:RW,e=Xa r.val/\QG w' r (zs,y)/\(∀g,r.fv.ownBlock=E g->w.heap.size<=g)/\Below w.heap.size w w':=by
 obtain⟨d,c,i,f⟩:=m;simp only[WT.val,WT.sv]at hm⊢;have k:Ext w ((w.alloc (cl #[G d,V c i f] 75)).alloc (cl #[V O 0 0,G false,V O 0 0] 77)):=((Xe w).alloc _).alloc _;obtain⟨t,u⟩:=Xj w (cl #[G d,V c i f] 75) (cl #[V O 0 0,G false,V O 0 0] 77);have N:=zf (fun W (j:Ext w W)=>zky W g x zs (h.ext j) Y);clear h;go_enter func148,ntmps148
 go_wp2_with fail
 generalize World.alloc _ _=l at *;have s:=zf (fun W (j:Ext l W)=>Xc (j.cell (c_ 0 t)) (j.cell (c_ 1 t)));have J:=zf (fun W (j:Ext l W)=>(j.block _ (zd.1 u).1).trans u);have y0:=Xe l;obtain⟨_,_⟩:=s.out l y0;clear t u;go_region_held3 (fun W=>W.cell? (Xd w.heap.size 0 O)=E (G d)/\W.cell? (Xd w.heap.size 1 O)=E (V c i f)) (first|(exact s.out _ ea)|(have A:=s.out a q;exact⟨zcL om A.1,zcL om A.2⟩)|go_keep) (first|(go_at_call 81;refine(N.out _ (by first|exact k.drew|exact k)).mono ?_;rintro e a ⟨⟨fa,p,o⟩,rfl,F,D,C⟩;have q:Ext l a:=(by first|exact ZG C|exact Xf C);have b:=J.out a q;have Q:=c_ 0 b;have R:=c_ 1 b;have S:=c_ 2 b;have f0:=Xh (j:=0) b;have f1:=Xh (j:=1) b;have f2:a.frozen? ⟨w.heap.size+1,2,O⟩=false:=Xh b))
 all_goals
  have I:Wr (fun z=>z=w.heap.size+1) a (((a.setCell ⟨w.heap.size+1,0,O⟩ (V fa p o)).setCell ⟨w.heap.size+1,1,O⟩ (G d)).setCell ⟨w.heap.size+1,2,O⟩ (V c i f)):=zce rfl _ _ _;have M:Hid (QG (((a.setCell ⟨w.heap.size+1,0,O⟩ (V fa p o)).setCell ⟨w.heap.size+1,1,O⟩ (G d)).setCell ⟨w.heap.size+1,2,O⟩ (V c i f)) ⟨(fa,p,o),d,c,i,f⟩ (zs,y)):=by
   refine QG.wr ⟨F,hm.below (k.trans q)⟩ I (fun z U=>?_);subst U;exact⟨fun Z=>absurd (Z.one ⟨_,_,b⟩) dc,zE b n3⟩
  have K:=zf (I.below (B:=w.heap.size) (by have:=(k.trans q).size;omega) (fun a1 hk=>om));have L:=zf D;have a0:=k.size;have P:=zf ((k.trans q));clear F D;go_wp2;exact zH (v:=ag #[V fa p o,G d,V c i f]) (by simp[results,results148,go_sem,Q,R,S]) rfl ⟨⟨(fa,p,o),d,c,i,f⟩,rfl,M.out,fun g X=>zF a0 (show l.heap.size<=g from L.out g X),Qg P.out K.out⟩
attribute [local go_sem] zD zW qJ
theorem zde (fa:Option Addr)(fl fc:Nat)(w:H):
 Calls pg 90 #[ag #[V fa fl fc]] w fun e w'=>e=Xa (.func (.func 117) #[] #[pn (E ⟨w.heap.size+1,0,O⟩)])/\w'=(w.alloc (cl #[V fa fl fc] 71)).alloc (cl #[V fa fl fc] 69):=by
 go_enter func90,ntmps90
 go_wp2_with fail
 refine(zdQ fa fl fc _).mono ?_;rintro e a ⟨rfl,rfl⟩;go_wp2;go_ret;exact⟨sp,rfl⟩
theorem zrO (fa:Option Addr)(fl fc:Nat)(f:Nat)(w:H):
 Calls pg 160 #[ag #[V fa fl fc],.func (.func f) #[] #[]] w fun e w'=>e=Xa (.func (.func 198) #[] #[pn (E (Xd w.heap.size 0 O)),pn (E ⟨w.heap.size+1,0,O⟩)])/\w'=(w.alloc (cl #[V fa fl fc] 71)).alloc (cl #[.func (.func f) #[] #[]] 111):=by
 go_enter func160,ntmps160
 have a:=jR;go_wp2;go_ret;exact⟨rfl,rfl⟩
theorem zqE (fa:Option Addr)(fl fc:Nat)(zs:List Int)(ts:List WT)(e:ts.length=zs.length)(a b:Nat)(c:zs.length<=1000000):
 Ja pg 198 #[pn (E (Xd a 0 O)),pn (E (Xd b 0 O))] zs.length (fun k v W=>∃(t:WT) (z:Int),zs[k]? =E z/\v=#[t.val]/\zy W t.val (-z))
  (fun W=>W.cell? (Xd a 0 O)=E (V fa ts.length fc)/\W.cell? (Xd b 0 O)=E (.func (.func 76) #[] #[])/\T.Recs W (V fa ts.length fc) 2 (ts.map WT.cells)/\∀(i:Nat) (t:WT) (z:Int),ts[i]? =E t->zs[i]? =E z->zy W t.val z):=by
 intro l K N b W y R hC d h0;obtain⟨f,_,-,-⟩:=(hC 0 b W h0).1;have c:=zf hC;have Y:=zf d;have C:=zf e;have hm:Tryz.prog.follows .mixedOrders=true:=kr;clear d hC e;refine Q0 func198 ntmps198 (h:=?_);have d:a<W.heap.size:=zw f;gi_wp2;refine(zq.2 (zde fa ts.length fc _)).mono ?_;rintro e a ⟨rfl,rfl⟩;gi_wp2;refine ZT (JO ts fa fc (W.heap.size+1+1) (by have:=C.out;omega)) rfl (qW func117 kr rfl) (fun k v W=>by rintro⟨t,_,rfl⟩;rfl)
  (fun k M A=>K k M A/\A.cell? (Xd W.heap.size 0 O)=E (.func (.yield l) #[] #[])/\A.cell? ⟨W.heap.size+1+1,0,O⟩=E (V fa ts.length fc)/\¬M W.heap.size/\¬M (W.heap.size+1+1)) (fun F k A=>F= .ret/\N k A) b ?hI ?hIx ?hC ?h0 ?round ?done ?stop
 case hI=>
  rintro k M A B ⟨a,f,j,q,r⟩ s;exact⟨y _ _ _ _ a (s.mono so),s.cell f,s.cell j,q,r⟩
 case hIx=>
  rintro F k A B ⟨a,f⟩ s;exact⟨a,R _ _ _ f (s.mono so)⟩
 case hC=>
  rintro k M A ⟨a,f,j,q,r⟩;exact⟨⟨j,(c.out k M A a).1.2.2.1⟩,(c.out k M A a).2⟩
 case h0=>
  refine⟨y _ _ _ _ h0 (((zn.alloc _ _ _).trans (zn.alloc _ _ _)).trans (zn.alloc _ _ _)),?_,?_,?_,?_⟩;·exact(((ZU W 162 (.func (.yield l) #[] #[])).alloc _).alloc _).cell
  ·have:=(ZU ((W.alloc (cl #[.func (.yield l) #[] #[]] 162)).alloc (cl #[V fa ts.length fc] 71)) 69 (V fa ts.length fc)).cell;simpa using this
  ·intro h;have:=(c.out 0 b W h0).2 _ h;omega
  ·intro h;have:=(c.out 0 b W h0).2 _ h;omega
 case round=>
  rintro L k v M A b ⟨b,d,rfl⟩ ⟨a,f,j,q,r⟩;have S:k<zs.length:=by have:=C.out;omega
  obtain⟨z,hz⟩:∃z,zs[k]? =E z:=⟨_,zg S⟩;have J:=(c.out k M A a).1.2.2.2 k b z d hz;obtain⟨m,g,u,o⟩:=b;simp only[WT.val,WT.sv]at J⊢;unfold Zz;gi_wp2;refine⟨Xg ((Xe A).alloc _),fun b x=>?_⟩;have d:=(zn.alloc _ A (cl #[G m,V g u o] 75)).trans x;have w:zn W.heap.size A b:=d.mono so;have P:=d.cell f;have B:=d.cell ((c.out k M A a).1.2.1);have Q:=d.cell j;have I:=x.block _ _ (zC A (cl #[G m,V g u o] 75)) (.inr rfl);have c:=c_ 0 I;have c:=c_ 1 I;have a0:=y _ _ _ _ a (w.trans (zn.drew _ _));have c:=w.size;have c:W.heap.size+1+1<b.heap.size:=zw Q;have X:Hid (Calls pg 76 #[ag #[G m,V g u o]] b.drew fun e c=>∃t:WT,e=Xa (ag #[G t.b,V t.s.1 t.s.2.1 t.s.2.2])/\zy c (ag #[G t.b,V t.s.1 t.s.2.1 t.s.2.2]) (-z)/\Below b.drew.heap.size b.drew c):=by
   refine(zau b.drew _ z (J.keep (w.trans (zn.drew _ _)))).mono ?_;rintro e c ⟨U,rfl,d,D⟩;obtain⟨t,rfl⟩:=d.shape;exact⟨t,rfl,d,D⟩
  have Z:Hid (∀(t:WT) (c:H),zy c (ag #[G t.b,V t.s.1 t.s.2.1 t.s.2.2]) (-z)->Below b.drew.heap.size b.drew c->∃x B u w,(Instr.yield l #[ag #[G t.b,V t.s.1 t.s.2.1 t.s.2.2]]).run pg c= .ok (.round l x B u w) c/\
   RoundIn (Fence.wide.inRound L) 0 pg l x B u w c fun e g=>∃m,e=Xa (G m)/\Hid ((m=true->Wr M b g/\∃o,(K (k+1) o g/\g.cell? (Xd W.heap.size 0 O)=E (.func (.yield l) #[] #[])/\g.cell? ⟨W.heap.size+1+1,0,O⟩=E (V fa ts.length fc)/\¬o W.heap.size/\¬o (W.heap.size+1+1))/\∀l,o l->M l\/A.heap.size<=l)/\(m=false->Wr M b g/\N k g))):=by
   intro t c K D;have xB:=ZG D;obtain⟨x,B,u,w,d,l⟩:=zgw L 0 (Y.out k #[t.val] M c S ⟨t,z,hz,rfl,K⟩ (y _ _ _ _ a0 (zn.of_below D)));refine⟨x,B,u,w,d,l.mono ?_⟩;rintro e g ⟨m,rfl,b⟩;refine⟨m,rfl,fun h=>?_,fun h=>?_⟩
   ·obtain⟨g,o,N,D⟩:=b.out.1 h;have S:=xB.size;refine⟨(Xg xB).trans g,o,⟨N,g.cell (p:=(Xd W.heap.size 0 O)) q (xB.cell P),g.cell (p:=⟨W.heap.size+1+1,0,O⟩) r (xB.cell Q),fun h=>?_,fun h=>?_⟩,fun U d=>?_⟩
    ·rcases D _ h with h|h
     ·exact q h
     ·omega
    ·rcases D _ h with h|h
     ·exact r h
     ·omega
    ·rcases D U d with h|h
     ·exact .inl h
     ·exact .inr om
   ·obtain⟨g,o⟩:=b.out.2 h;exact⟨(Xg xB).trans g,o⟩
  clear I a f j J;gi_wp2;gi_region_with_o (first|(have g:=l;refine l.mono ?_;rintro e g ⟨m,rfl,b⟩)|(gi_at_call 76;refine(Zq L (zq.2 X.out)).mono ?_;rintro e c ⟨⟨o,h,I,D⟩,rfl,g,e⟩;have J:=(ZG e).cell P;obtain⟨x,B,u,w,d,l⟩:=Z.out ⟨o,h,I,D⟩ c g e;simp only at d))
  all_goals clear l d
  all_goals gi_wp2
  all_goals (rename_i K;cases m<;>simp at K)
  all_goals first
   |exact⟨(b.out.2 rfl).1,rfl,(b.out.2 rfl).2⟩
   |exact b.out.1 rfl
 case done=>
  rintro D M A c ⟨a,f,j,q,r⟩ b;gi_wp2;refine qh b ?_;refine⟨_,qI rfl _ _ _,⟨_,rfl⟩,.inl ⟨M,?_⟩⟩;rw[<-C.out];exact y _ _ _ _ a (zn.putObj _ (by simp at c;omega) b rfl)
 case stop=>
  rintro D F k A c s ⟨rfl,a⟩ b;gi_wp2;refine qh b ?_;exact⟨_,qI rfl _ _ _,⟨_,rfl⟩,.inr ⟨k,by have:=C.out;omega,R _ _ _ a (zn.putObj _ (by simp at c;omega) b rfl)⟩⟩
end

section
open Go.RowKit
variable {N:Nat}{v:Value}{w:H}
theorem Jp{C D:H->Prop}(h1:Jt N C)(h2:Jt N D):Jt N (fun W=>C W/\D W):=fun A B h a=>⟨h1 A B h.1 a,h2 A B h.2 a⟩
theorem za2{a:Sort _}{C:a->H->Prop}(h:∀i,Jt N (C i)):Jt N (fun W=>∀i,C i W):=fun A B a b i=>h i A B (a i) b
theorem JU{A B:H}(c:∀(k:Nat) (o:Obj),k<N->A.heap[k]? =E o->o.isCells=true->B.heap[k]? =E o){p:Addr}(d:p.block<N)(h:A.cell? p=E v):B.cell? p=E v:=by
 obtain⟨o,a,b⟩:=cells_of_cell h;exact(Zj (w:=A) ((c _ o d a b).trans a.symm)).trans h
theorem JV{b o:Nat}(hb:b<N):Jt N (fun W=>W.cell? (Xd b o O)=E v):=fun _ _ h a=>JU a (p:=(Xd b o O)) hb h
theorem zkz{n:Nat}(h:NatV w v n):Jt w.heap.size (fun W=>NatV W v n):=by
 intro A B g i;obtain⟨e,⟨_,_,l,_,m⟩,_,_,_⟩:=h;obtain⟨d,⟨b,c,a,j,k⟩,f⟩:=g;refine⟨d,⟨b,c,a,j,fun c=>?_⟩,f⟩;obtain⟨b,off,f,_,j⟩:=k c;have g:b<w.heap.size:=by
  rw[l]at a;simp only[qp]at a;have l:e≠ []:=by
   intro e;rw[e]at a;have:=ZC.2 c;simp at a;omega
  obtain⟨_,_,k,_,_⟩:=m l;have e:=a.1;rw[f,k]at e;simp only[qN,Jg]at e;omega
 have a:=ZC.2 c;have c:=JU i (p:=⟨b,off+0,O⟩) g (j 0 a);exact⟨b,off,f,zw c,fun a c=>JU i (p:=⟨b,off+a,O⟩) g (j a c)⟩
theorem zaw{x:Value}{z:Int}(h:zy w x z):Jt w.heap.size (fun W=>zy W x z):=by
 intro A B c i;obtain⟨_,k,a,d,_⟩:=h;obtain⟨b,v,e,f,g⟩:=c;have j:v=k:=by
  rw[a]at e;simp only[zdU]at e;have c:=qm (fun a:Array Value=>a[1]?) e;simpa using c.symm
 subst j;exact⟨b,v,e,zkz d A B f i,g⟩
theorem zf5{t:TypeId}{size:Nat}{a:List (List Value)}(h:ZS w t v size a):Jt w.heap.size (fun W=>ZS W t v size a):=by
 intro A B b c;rcases b with b|⟨g,off,d,a,j,⟨f,i,k⟩,l⟩
 ·exact Or.inl b
 ·have b:g<w.heap.size:=by
   rcases h with ⟨e,_⟩|⟨_,_,_,e,_,m,_⟩
   ·rw[e]at a;cases a
   ·have:=m.lt;rw[e]at a;simp only[qp,qN,Jg]at a;omega
  exact Or.inr ⟨g,off,d,a,j,⟨f,i,c g _ b k rfl⟩,fun i cs a j u d=>JU c (p:=⟨g,off+i*size+j,O⟩) b (l i cs a j u d)⟩
theorem Ja.weaken{P:Program}{g:Nat}{b:Array Value}{n:Nat}{Y:Nat->Array Value->H->Prop}{C a:H->Prop}(h:Ja P g b n Y C)(j:∀W,a W->C W):Ja P g b n Y a:=
 fun l J b c W d e a f i=>h l J b c W d e (fun k M A b=>⟨j A (a k M A b).1,(a k M A b).2⟩) f i
def turnedSeq {w:H}{fa:Option Addr}{fc:Nat}{zs:List Int}{ts:List WT}{bs bf:Nat}(hn:zs.length<=1000000)(h1:ts.length=zs.length)(h2:ZS w 75 (V fa ts.length fc) 2 (ts.map WT.cells))(h3:∀(i:Nat) (t:WT) (z:Int),ts[i]? =E t->zs[i]? =E z->zy w t.val z)
 (hs:w.cell? (Xd bs 0 O)=E (V fa ts.length fc)) (hf:w.cell? (Xd bf 0 O)=E (.func (.func 76) #[] #[])):zdT w 198 #[pn (E (Xd bs 0 O)),pn (E (Xd bf 0 O))] (zs.map fun z=>-z) where
 Y:=fun k v W=>∃(t:WT) (z:Int),zs[k]? =E z/\v=#[t.val]/\zy W t.val (-z)
 C:=fun W=>W.cell? (Xd bs 0 O)=E (V fa ts.length fc)/\W.cell? (Xd bf 0 O)=E (.func (.func 76) #[] #[])/\ZS W 75 (V fa ts.length fc) 2 (ts.map WT.cells)/\∀(i:Nat) (t:WT) (z:Int),ts[i]? =E t->zs[i]? =E z->zy W t.val z
 seq:=by
  rw[zm];exact(zqE fa fc fc zs ts h1 bs bf hn).weaken (fun W h=>⟨h.1,h.2.1,h.2.2.1.recs,h.2.2.2⟩)
 ent:=qW Tryz.func198 (by kernel_rfl) rfl
 val:=by
  rintro k v W x hx ⟨t,z,hz,rfl,ht⟩;rw[zR,hz]at hx;simp only[qY,qN]at hx;subst hx;exact⟨t,rfl,ht⟩
 one:=by
  rintro k v W ⟨t,z,hz,rfl,ht⟩;rfl
 now:=⟨hs,hf,h2,h3⟩
 old:=Jp (JV (zw hs)) (Jp (JV (zw hf)) (Jp (zf5 h2) (za2 fun i=>za2 fun t=>za2 fun z=>fun A B hA hh ht hz=>zaw (h3 i t z ht hz) A B (hA ht hz) hh)))
theorem zg1(w:H)(r:RW)(x:List Int×Int)(h:QG w r x)(hn:x.1.length<=100000):
 Calls pg 150 #[r.val] w fun e w'=>∃X:RW,e=Xa X.val/\QG w' X (x.1.map (fun z=>-z),-x.2)/\(∀g,X.fv.ownBlock=E g->w.heap.size<=g)/\Below w.heap.size w w':=by
 obtain⟨⟨fa,_,i⟩,I,F,K,J⟩:=r;obtain⟨⟨k,Z,A,h3⟩,hm⟩:=h;obtain⟨_,_,e⟩:=A.shape;rw[zm]at e;simp only[RW.fv,qp]at e;obtain⟨rfl,rfl,rfl⟩:=e;simp only[RW.val,RW.fv,WT.sv,WT.val]at A hm⊢;have H1:=zf Z;have H2:=zf A;have H3:=zf h3;clear Z A h3;have j:Ext w ((w.alloc (cl #[V fa k.length i,G I,V F K J] 77)).alloc (cl #[V O 0 0,G false,V O 0 0] 77)):=((Xe w).alloc _).alloc _;obtain⟨C,R⟩:=Xj w (cl #[V fa k.length i,G I,V F K J] 77) (cl #[V O 0 0,G false,V O 0 0] 77);go_enter func150,ntmps150
 go_wp2_with fail
 generalize World.alloc _ _=a at *;have P:=zf (fun W (b:Ext a W)=>Xc (b.cell (c_ 0 C)) (Xc (b.cell (c_ 1 C)) (b.cell (c_ 2 C))));have HB:=zf (fun W (b:Ext a W)=>(b.block _ (zd.1 R).1).trans R);have y0:=Xe a;obtain⟨_,_,_⟩:=P.out a y0;have a3:Hid (∀(W:H) (d:Nat) (t:WT),Ext a W->zy W t.val (-x.2)->W.cell? (Xd d 0 O)=E (V fa k.length i)->W.cell? ⟨d+1,0,O⟩=E (.func (.func 76) #[] #[])->Calls pg 148 #[.func (.func 198) #[] #[pn (E (Xd d 0 O)),pn (E ⟨d+1,0,O⟩)],ag #[G t.b,V t.s.1 t.s.2.1 t.s.2.2]] W fun e w'=>∃r:RW,e=Xa r.val/\QG w' r (x.1.map (fun z=>-z),-x.2)/\(∀g,r.fv.ownBlock=E g->W.heap.size<=g)/\Below W.heap.size W w'):=by
  intro W d t b U p hf;exact zfO W _ _ (x.1.map fun z=>-z) (turnedSeq om H1.out (H2.out.ext (j.trans b)) (fun aa t z a7 a9=>(H3.out aa t z a7 a9).below (j.trans b)) p hf) (by rw[zm];exact hn) t (-x.2) U
 have a4:Hid (∀W,Ext a W->Calls pg 76 #[ag #[G I,V F K J]] W fun e w'=>∃t:WT,e=Xa (ag #[G t.b,V t.s.1 t.s.2.1 t.s.2.2])/\zy w' (ag #[G t.b,V t.s.1 t.s.2.1 t.s.2.2]) (-x.2)/\Below W.heap.size W w'):=by
  intro W b;refine(zau W _ x.2 (hm.below (j.trans b))).mono ?_;rintro e w' ⟨_,rfl,hy,p⟩;obtain⟨t,rfl⟩:=hy.shape;exact⟨t,rfl,hy,p⟩
 clear C R;go_region_held3 (fun W=>W.cell? (Xd w.heap.size 0 O)=E (V fa k.length i)/\W.cell? (Xd w.heap.size 1 O)=E (G I)/\W.cell? (Xd w.heap.size 2 O)=E (V F K J)) (first|(exact P.out _ ea)|(have Q:=P.out c N;exact⟨zcL om Q.1,zcL om Q.2.1,zcL om Q.2.2⟩)|go_keep) (first|(go_at_call 148;have _g:=M;refine(a3.out w2 _ tT M a6 ((Xf S).cell k0) ((Xf S).cell k1)).mono ?_;rintro e c ⟨⟨⟨l,o,m⟩,s,q,y,u⟩,rfl,a1,a0,a5⟩;have N:Ext a c:=M.trans (Xf a5);have f:=HB.out c N;have g0:=c_ 0 f;have g1:=c_ 1 f;have g2:=c_ 2 f;have f0:=Xh (j:=0) f;have f1:=Xh (j:=1) f;have f2:=Xh (j:=2) f;simp only[RW.val,RW.fv,WT.sv])|(go_at_call 76;have _g:=Y;refine(a4.out L Y).mono ?_;rintro e w2 ⟨tT,rfl,a6,S⟩;have M:Ext a w2:=Y.trans (Xf S))|(go_at_call 160;refine(zrO fa k.length i 76 _).mono ?_;rintro e L ⟨rfl,D⟩;have Y:Ext a L:=(by rw[D];exact(y0.drew.alloc _).alloc _);have k0:L.cell? (Xd a.drew.heap.size 0 O)=E (V fa k.length i):=(by rw[D];exact c_ 0 (Xj _ _ _).1);have k1:L.cell? ⟨a.drew.heap.size+1,0,O⟩=E (.func (.func 76) #[] #[]):=(by rw[D];exact c_ 0 (Xj _ _ _).2);clear D))
 all_goals
  have hw:Wr (fun d=>d=w.heap.size+1) c (((c.setCell ⟨w.heap.size+1,0,O⟩ (V l o m)).setCell ⟨w.heap.size+1,1,O⟩ (G s)).setCell ⟨w.heap.size+1,2,O⟩ (V q y u)):=zce rfl _ _ _;have HR:Hid (QG (((c.setCell ⟨w.heap.size+1,0,O⟩ (V l o m)).setCell ⟨w.heap.size+1,1,O⟩ (G s)).setCell ⟨w.heap.size+1,2,O⟩ (V q y u)) ⟨(l,o,m),s,q,y,u⟩ (x.1.map (fun z=>-z),-x.2)):=by
   refine QG.wr a1 hw (fun d p=>?_);subst p;exact⟨fun U=>absurd (U.one ⟨_,_,f⟩) dc,zE f n3⟩
  have HF:=zf (hw.below (B:=w.heap.size) (by have:=(j.trans N).size;omega) (fun ab hk=>om));have a2:=zf a0;have a8:=(j.trans M).size;have HX:=zf ((j.trans N));clear a1 a0;go_wp2;exact zH (v:=ag #[V l o m,G s,V q y u]) (by simp[results,results150,go_sem,g0,g1,g2]) rfl ⟨⟨(l,o,m),s,q,y,u⟩,rfl,HR.out,fun g hg=>zF a8 (a2.out g hg),Qg HX.out HF.out⟩
attribute [local go_sem] zD zW qJ
end

section
open Go.RowKit
variable {B a g n:Nat}{c d:Value}{row:List Int×List UInt8×Int}{w w':H}
def zft (p:qF)(zs:List Int):Prop:=
 zs.length=3*p.n/\(∀k,k<p.mx.length->zs.getD (3*k) 0=p.mx.getD k 0)/\∀k,k<p.rg.length->zs.getD (3*k+1) 0=(p.rg.getD k (0,0)).1/\zs.getD (3*k+2) 0=(p.rg.getD k (0,0)).2
structure Jl where
 s:ByteArray
 x:Bool
 b:Option Addr×Nat×Nat
 f:Nat
 n:Nat
def Jl.cells (r:Jl):List Value:= [gS r.s,G r.x,V r.b.1 r.b.2.1 r.b.2.2,V (E (Xd r.f 0 O)) r.n r.n]
def zaH (rs:List Jl):List Value:=rs.flatMap Jl.cells
def RowIs (w:H)(T:Nat->Prop)(r:Jl)(row:List Int×List UInt8×Int):Prop:=
 ¬T r.f/\r.n=row.1.length/\Whs w r.f row.1/\r.s=⟨row.2.1.toArray⟩/\zy w (ag #[G r.x,V r.b.1 r.b.2.1 r.b.2.2]) row.2.2
def Own (gp:Nat)(vC vR:Value)(k:Nat):Prop:=k=gp\/vC.ownBlock=E k\/vR.ownBlock=E k
theorem RowIs.keep{T:Nat->Prop}{r:Jl}(h:RowIs w T r row)(a:zn B w w'):RowIs w' T r row:=
 ⟨h.1,h.2.1,h.2.2.1.keep a,h.2.2.2.1,h.2.2.2.2.keep a⟩
theorem RowIs.wr{T U:Nat->Prop}{r:Jl}(h:RowIs w T r row)(b:Wr U w w')(c:∀k,U k->T k)(a:∀k,U k->qK w k):RowIs w' T r row:=
 ⟨h.1,h.2.1,h.2.2.1.wr b (fun e=>h.1 (c _ e)) a,h.2.2.2.1,h.2.2.2.2.wr b a⟩
structure DQ (w:H)(gp:Nat)(p:qF)(vC vR:Value):Prop where
 box:Zh w gp vC vR
 nodP:qK w gp
 cols:(p.n=0/\vC=V O 0 0)\/∃bc zs,vC=V (E (Xd bc 0 O)) p.n p.n/\bc≠gp/\Whs w bc zs/\zft p zs
 nodR:∀g,vR.ownBlock=E g->qK w g/\g≠gp/\vC.ownBlock≠E g
 rows:∃rs:List Jl,rs.length=p.rows.length/\w.ownsRow 0 169 4 vR rs.length (zaH rs)/\∀(i:Nat) (r:Jl) (row:List Int×List UInt8×Int),rs[i]? =E r->p.rows[i]? =E row->RowIs w (Own gp vC vR) r row
theorem Zh.same{x y:Value}(h:Zh w g x y)(b:w'.heap[g]? =w.heap[g]?)(hs:w.heap.size<=w'.heap.size):Zh w' g x y:=by
 obtain⟨c,d,e,f,i⟩:=h;exact⟨(Zj (w:=w) (a:=⟨g,0,O⟩) b).trans c,(Zj (w:=w) (a:=⟨g,1,O⟩) b).trans d,(qw (w:=w) (a:=⟨g,0,O⟩) b).trans e,(qw (w:=w) (a:=⟨g,1,O⟩) b).trans f,zK i hs⟩
theorem zn.cells(b:zn B w w'){o:Obj}(ho:w.heap[g]? =E o)(a:o.isCells=true):w'.heap[g]? =w.heap[g]?:=(b.block g o ho (.inr a)).trans ho.symm
theorem Zh.keep{x y:Value}(h:Zh w g x y)(a:zn B w w'):Zh w' g x y:=by
 obtain⟨_,c,b⟩:=cells_of_cell h.1;exact h.same (a.cells c b) a.size
theorem zfh{e size:Nat}{v:Value}{xs:List Value}(h:w.ownsRow B e size v n xs)(p:∀g,v.ownBlock=E g->w'.heap[g]? =w.heap[g]?):w'.ownsRow B e size v n xs:=by
 obtain⟨a,f|⟨g,c,d,b,l,m,o,i,j,k⟩⟩:=h;·exact⟨a,Or.inl f⟩
 ·exact⟨a,Or.inr ⟨g,c,d,b,l,(p g (by rw[b];rfl)).trans m,o,i,j,k⟩⟩
theorem zoE{B':Nat}{e size:Nat}{v:Value}{xs:List Value}(h:w.ownsRow B e size v n xs)(d:zn B' w w'):w'.ownsRow B e size v n xs:=by
 refine zfh h fun g a=>?_
 obtain⟨_,b|⟨_,_,_,f,_,c,_,_,_,_⟩⟩:=h;·rw[b.1]at a;cases a
 ·rw[f]at a;simp[Value.ownBlock]at a;subst a;exact d.cells c rfl
theorem DQ.keep{b:Nat}{p:qF}(h:DQ w b p c d)(a:zn B w w'):DQ w' b p c d:=by
 refine⟨h.box.keep a,h.nodP.keep a,?_,fun g b=>⟨(h.nodR g b).1.keep a,(h.nodR g b).2⟩,?_⟩
 ·rcases h.cols with b|⟨e,g,b,c,d,f⟩
  ·exact Or.inl b
  ·exact Or.inr ⟨e,g,b,c,d.keep a,f⟩
 ·obtain⟨e,b,c,d⟩:=h.rows;exact⟨e,b,zoE c a,fun i r row b c=>(d i r row b c).keep a⟩
theorem DQ.below{p:qF}{b:Value}(h:DQ w a p b c)(hb:Below w.heap.size w w'):DQ w' a p b c:=h.keep (B:=0) (zn.of_below hb)
theorem DQ.cols_anew{p q:qF}{b:Value}{zs:List Int}(h:DQ w g p b d)(f:b=V (E (Xd a 0 O)) p.n p.n)(e:0<p.n)(c:Wr (fun k=>k=a) w w')(t:Whs w' a zs)(r:zft q zs)(s:q.n=p.n)(l:q.rows=p.rows):DQ w' g q b d:=by
 obtain⟨j,m⟩:a≠g/\qK w a:=by
  rcases h.cols with ⟨_,_⟩|⟨_,_,d,i,b,_⟩
  ·omega
  ·rw[f]at d;simp at d;subst d;exact⟨i,b.1⟩
 have o:∀k,k=a->qK w k:=fun k e=>e▸m
 refine⟨h.box.same (c.block g h.box.2.2.2.2 (Qr j)) c.size,h.nodP.wr c (Qr j),Or.inr ⟨a,zs,by rw[s];exact f,j,t,r⟩,fun g a=>?_,?_⟩
 ·have b:=h.nodR g a;exact⟨b.1.wr c (fun e=>b.2.2 (by rw[f,e];rfl)),b.2⟩
 ·obtain⟨j,d,i,b⟩:=h.rows;refine⟨j,by rw[l];exact d,zfh i (fun g a=>?_),fun r s row j d=>?_⟩
  ·have m:=(i.lt g a).2;exact c.block g m (fun e=>(h.nodR g a).2.2 (by rw[f,e];rfl))
  ·rw[l]at d;exact(b r s row j d).wr c (fun k e=>Or.inr (Or.inl (by rw[f,e];rfl))) o
theorem DQ.cols_made{b:Nat}{zs:List Int}(h:DQ w a qF.none d c)(r:Whs w b zs)(f:b≠a)(m:c.ownBlock≠E b)(o:zs.length=3*n):
 DQ (w.setCell (Xd a 0 O) (V (E (Xd b 0 O)) n n)) a ⟨n,[],[],[]⟩ (V (E (Xd b 0 O)) n n) c:=by
 obtain⟨d,i,g,j,l⟩:=h.box;have c:Wr (fun k=>k=a) w (w.setCell (Xd a 0 O) (V (E (Xd b 0 O)) n n)):=Xq (T:=fun k=>k=a) (Xi _ _) (p:=(Xd a 0 O)) rfl _;have q:∀k,k=a->qK w k:=fun k e=>e▸h.nodP
 refine⟨⟨zN _ _ _ d,?_,by simpa using g,by simpa using j,by simpa using l⟩,?_,Or.inr ⟨b,zs,rfl,f,r.wr c f q,o,fun k a=>by simp at a,fun k a=>by simp at a⟩,fun g a=>?_,?_⟩;·rw[zA _ _ _ _ sp];exact i
 ·exact h.nodP.setCell d sp
 ·have b:=h.nodR g a;refine⟨b.1.wr c b.2.1,b.2.1,fun e=>?_⟩;simp[Value.ownBlock]at e;exact m (by rw[a,e])
 ·obtain⟨f,e,d,b⟩:=h.rows;obtain rfl:f= []:=QZ (by simpa[qF.none]using e);refine⟨[],rfl,zfh d (fun g a=>c.block g (d.lt g a).2 (h.nodR g a).2.1),fun i r row a b=>by simp at a⟩
theorem DQ.rows_grown{cap:Nat}{p:qF}{rs:List Jl}{r:Jl}{row:List Int×List UInt8×Int}(h:DQ w a p d c)(x:rs.length=p.rows.length)(M:∀(i:Nat) (r:Jl) (row:List Int×List UInt8×Int),rs[i]? =E r->p.rows[i]? =E row->RowIs w (Own a d c) r row)(L:RowIs w (Own a d c) r row)(B:w'.ownsRow 0 169 4 (V (E (Xd g 0 O)) (rs.length+1) cap) (rs.length+1) (zaH rs++r.cells))(hg:w.grownBy w' c.ownBlock)(s:c.ownBlock=E g\/g=w.heap.size)(K:qK w' g):
 DQ (w'.setCell (Xd a 1 O) (V (E (Xd g 0 O)) (rs.length+1) cap)) a { p with rows:=p.rows ++ [row] } d (V (E (Xd g 0 O)) (rs.length+1) cap):=by
 have j:Wr (fun k=>c.ownBlock=E k) w w':=⟨hg.os,hg.tape,hg.output,hg.size,fun k b e=>hg.block k b (fun f=>e f.symm)⟩;have y:=fun k e=>(h.nodR k e).1
 have l:¬c.ownBlock=E a:=fun e=>(h.nodR a e).2.1 rfl
 have m:=h.box.same (j.block a h.box.2.2.2.2 l) j.size;have A:=h.nodP.wr j l;obtain⟨D,u,F,I,J⟩:=m;have o:Wr (fun k=>k=a) w' (w'.setCell (Xd a 1 O) (V (E (Xd g 0 O)) (rs.length+1) cap)):=Xq (T:=fun k=>k=a) (Xi _ _) (p:=(Xd a 1 O)) rfl _;have z:∀k,k=a->qK w' k:=fun k e=>e▸A
 have v:g≠a:=by
  rcases s with e|e
  ·exact(h.nodR g e).2.1
  ·have:=h.box.2.2.2.2;omega
 have t:∀k,d.ownBlock=E k->k<w.heap.size/\¬c.ownBlock=E k:=by
  intro k b;rcases h.cols with ⟨_,e⟩|⟨l,C,e,f,m,_⟩
  ·rw[e]at b;cases b
  ·rw[e]at b;simp[Value.ownBlock]at b;subst b;exact⟨m.lt,fun m=>(h.nodR l m).2.2 (by rw[e];rfl)⟩
 have one:∀{r:Jl} {row:List Int×List UInt8×Int},RowIs w (Own a d c) r row->RowIs (w'.setCell (Xd a 1 O) (V (E (Xd g 0 O)) (rs.length+1) cap)) (Own a d (V (E (Xd g 0 O)) (rs.length+1) cap)) r row:=by
  intro r row c;have m:=c.wr j (fun k e=>Or.inr (Or.inr e)) y;have q:RowIs w' (Own a d (V (E (Xd g 0 O)) (rs.length+1) cap)) r row:=by
   refine⟨fun e=>?_,m.2⟩;rcases e with e|e|e
   ·exact c.1 (Or.inl e)
   ·exact c.1 (Or.inr (Or.inl e))
   ·simp[Value.ownBlock]at e;rcases s with f|f
    ·exact c.1 (Or.inr (Or.inr (by rw[f,e])))
    ·have:=c.2.2.1.lt;omega
  exact q.wr o (fun k e=>Or.inl e) z
 refine⟨⟨?_,zN _ _ _ u,by simpa using F,by simpa using I,by simpa using J⟩,A.setCell u sp,?_,fun k b=>?_,rs ++ [r],by simp[x],?_,fun i A F a d=>?_⟩;·rw[zA _ _ _ _ sp];exact D
 ·rcases h.cols with c|⟨l,C,c,m,q,u⟩
  ·exact Or.inl c
  ·refine Or.inr ⟨l,C,c,m,?_,u⟩;have u:=(t l (by rw[c];rfl)).2;exact(q.wr j u y).wr o m z
 ·simp[Value.ownBlock]at b;subst b;refine⟨K.wr o v,v,fun e=>?_⟩;rcases s with f|f
  ·exact(t g e).2 f
  ·have:=(t g e).1;omega
 ·have e:zaH rs++r.cells=zaH (rs ++ [r]):=by simp[zaH]
  rw[zM,ZH,<-e];exact zfh B (fun k b=>o.block k (B.lt k b).2 (by simp[Value.ownBlock]at b;omega))
 ·by_cases b:i<rs.length
  ·rw[zS b]at a;rw[zS om]at d;exact one (M i A F a d)
  ·have b:i=rs.length:=by
    have:=(zo.1 a).1;simp at this;omega
   subst b;rw[zG (zh _),Qn]at a;rw[x,zG (zh _),Qn]at d;simp at a d;subst a d;exact one L
def zbm (wd:List UInt8)(m:Nat)(ws:List (List UInt8)):Bool:=decide (ws.length=m+1/\ws.getD 0 []=wd/\(ws.drop 1).all dOk=true)
theorem zlP{b:Type}(f:b->Bool)(d:b)(a:List b)(m:Nat)(h:a.length=m+1):(a.drop 1).all f=true↔∀j,0<j->j<m+1->f (a.getD j d)=true:=by
 rw[Zi];constructor
 ·intro b j c c;rw[zk,zg om];refine b _ ?_;have:a[j]' om=(a.drop 1)[j-1]'(by rw[Za];omega):=by
   rw[zcZ];congr 1
   omega
  rw[qB,this];exact zJ _
 ·intro b x a;obtain⟨j,c,rfl⟩:=List.mem_iff_getElem.1 a;rw[Za]at c;have:=b (1+j) om om;rw[zk,zg om]at this;rw[zcZ];exact this
theorem znD(a:List UInt8)(m:Nat)(c:List (List UInt8)):zdS (m+1) (fun k x=>if k=0 then decide (x=a)else dOk x) c=zbm a m c:=by
 unfold zdS zbm;rw[zaI];constructor
 ·rintro⟨a,b⟩;refine⟨a,?_,(zlP dOk [] c m a).2 fun j d e=>?_⟩
  ·have:=b 0 om;simpa using this
  ·have:=b j e;dsimp only at this;rwa [zO om]at this
 ·rintro⟨a,b,f⟩;refine⟨a,fun j e=>?_⟩;dsimp only;by_cases d:j=0
  ·subst d;rw[zQ rfl,b];simp
  ·rw[zO d];exact(zlP dOk [] c m a).1 f j om e
theorem zih(s:List UInt8)(hs:s.length<=2000)(h:List UInt8)(d:Nat)(a:List Nat)(f:Nat->Nat)(b:Nat)(zs:List Int)(g cap:Nat)(w:H)(hg:g≠b)(o:a.length<=900)(l:a.length+1<=cap)(c:cap<=9223372036854775807)(r:∀i fv,(QY d::a.map ZA)[i]? =E fv->w.cell? (Xd g i O)=E fv)(t:w.cell? (Xd d 0 O)=E (gS ⟨h.toArray⟩))(v:d≠b)(y:∀j q,a[j]? =E q->q≠b/\w.cell? (Xd q 0 O)=E (pn (E ⟨b,2*f j,O⟩))/\f j<zs.length)(m:Whs w b zs):
 Calls pg 133 #[gS ⟨s.toArray⟩,V (E (Xd g 0 O)) (a.length+1) cap] w fun e w'=>
  e=Xa (G (zbm h a.length (Zb s)))/\Wr (fun k=>k=b) w w'/\(zbm h a.length (Zb s)=true->Whs w' b (zbh f 0 zs ((Zb s).drop 1))):=by
 have u:(QY d::a.map ZA).length=a.length+1:=sp;have o:=ziB s hs (QY d::a.map ZA) (fun k x=>if k=0 then decide (x=h)else dOk x) (fun k=>k=b) (fun pre A=>Whs A b (zbh f 0 zs (pre.drop 1))) g cap w
  (fun x l=>l▸m.lt) hg om om c r (fun pre A B c r=>c.keep r) (fun pre A r r A c z r B=>c.setCell z r (by have:=m.lt;omega) A) ?_ m
 ·rw[u,znD]at o;exact o
 ·intro k fv c;cases k with
  |zero=>
   simp at c;subst c;refine⟨_,d,rfl,ziz,fun pre x W r l o m=>?_⟩;refine(zfm x h d W (o.cell (p:=(Xd d 0 O)) v t)).mono ?_;rintro e d ⟨rfl,rfl⟩;refine⟨rfl,Xi _ _,fun _=>?_⟩;obtain rfl:pre= []:=QZ r;exact m
  |succ j=>
   rw[jg,zR]at c;cases hq:a[j]? with
   |none=>rw[hq]at c;cases c
   |some q=>
    rw[hq]at c;injection c with c
    subst c;obtain⟨a,h,c⟩:=y j q hq;refine⟨_,q,rfl,ziA,fun pre x W r l o m=>?_⟩;refine(zig x q b (f j) (2*f j) _ W (o.cell (p:=(Xd q 0 O)) a h) rfl m (by rw[zeh];exact c) a l).mono ?_;rintro e d ⟨rfl,a,f⟩;refine⟨rfl,a,fun d=>?_⟩;have a:(pre ++ [x]).drop 1=pre.drop 1 ++ [x]:=by rw[jC om]
    have c:(pre.drop 1).length=j:=by rw[Za];omega
    rw[a,zhp,c,qt];exact f d
attribute [local go_sem] zD zW qJ
theorem zmz(s:List UInt8)(hs:s.length<=2000)(U d n:Nat)(vR:Value)(zs:List Int)(w:H)(hb:Zh w U (V (E (Xd d 0 O)) n n) vR)(hn:n<=4)(hz:Whs w d zs)(ax:zs.length=3*n):
 Calls pg 71 #[pn (E (Xd U 0 O)),gS ⟨s.toArray⟩] w fun e w'=>
  e=Xa (G (zbm zbB n (Zb s)))/\Wr (fun k=>k=d) w w'/\(zbm zbB n (Zb s)=true->Whs w' d (zbh (fun j=>3*j) 0 zs ((Zb s).drop 1))):=by
 obtain⟨b0,_,_,_,b4⟩:=hb;have av:=hz.lt;have a4:=zf (Pls.start w w (qf _ _) zbB (fun j=>⟨d,j*6,O⟩));have HZ:=zf hz;clear hz;refine Q0 func71 ntmps71 (h:=?_);gi_wp2;refine(zq.2 (ze2 _ _)).mono ?_;rintro e w1 ⟨rfl,rfl⟩;have g0:(((w.alloc (cl #[gS ⟨#[109,97,120]⟩] 9)).alloc (cl #[.func (.func 179) #[] #[pn (E (Xd w.heap.size 0 O))]] 222)).alloc (cl #[V (E ⟨w.heap.size+1,0,O⟩) 1 1] 226)).cell? (Xd U 0 O)=E (V (E (Xd d 0 O)) n n):=((zbt w _ _ _).cell (p:=(Xd U 0 O)) b4).trans b0;gi_wp2;refine(zq.2 (zfo _ _ _ _ rfl _)).mono ?_;rintro e w1 ⟨rfl,rfl⟩;gi_wp2;refine zaW (zeY (E (Xd d 0 O)) d n n (w.heap.size+1+1+1) om (fun _=>rfl)) rfl (qW func181 kr rfl) (fun ar u=>?_)
  (fun k M A=>k<=n/\∃b m l,b.length=k/\Pls w.heap.size w A (w.heap.size+1+1) w.heap.size zbB b (fun j=>⟨d,j*6,O⟩) [w.heap.size+1+1+1] m l/\A.cell? ⟨w.heap.size+1+1+1,0,O⟩=E (V (E (Xd d 0 O)) n n)/\∀x,M x↔x=w.heap.size+1+1\/(V m (k+1) l).ownBlock=E x)
  (fun a7 k A=>False) (fun x=>x=w.heap.size+1+1\/(V (E ⟨w.heap.size+1,0,O⟩) (0+1) 1).ownBlock=E x) ?hI ?hIx ?hC ?h0 ?round ?done ?stop
 case hI=>
  rintro k M A B' ⟨h1,b,m,l,h2,W,h4,h5⟩ hk;exact⟨h1,b,m,l,h2,W.keep hk so,hk.cell h4,h5⟩
 case hIx=>
  rintro a7 k A B' F _;exact F.elim
 case hC=>
  rintro k M A ⟨h1,b,m,l,h2,W,h4,h5⟩;refine⟨h4,fun x P=>?_⟩;subst h2;rcases(h5 x).1 P with e|e
  ·rw[e];exact W.lt _ sp
  ·exact(W.own.lt x e).2
 case h0=>
  refine⟨qo _,[],E ⟨w.heap.size+1,0,O⟩,1,rfl,?_,?_,fun _=>Qb⟩
  ·have F:=a4.out.alloc_avoid (cl #[V (E (Xd d 0 O)) n n] 56);simp only[zL]at F;exact F
  ·have:=(ZU (((w.alloc (cl #[gS ⟨#[109,97,120]⟩] 9)).alloc (cl #[.func (.func 179) #[] #[pn (E (Xd w.heap.size 0 O))]] 222)).alloc (cl #[V (E ⟨w.heap.size+1,0,O⟩) 1 1] 226)) 56 (V (E (Xd d 0 O)) n n)).cell;simp only[zL]at this;exact this
 case round=>
  rintro Q k ar M A u ⟨_,b,m,l,Y,i,X,I⟩;have ao:k<n:=by
   have:=(zo.1 u).1;rwa [ji]at this
  rw[zcx ao]at u;injection u with u
  subst u;subst Y;unfold Zz;gi_wp2;refine⟨Xi _ _,fun c a2=>?_⟩;have o:=i.keep a2 so;have a8:=a2.cell X;have aw:=a2.size;have c6:=o.box;have c7:=(o.alloc (cl #[pn (E ⟨d,b.length*6,O⟩)] 232)).box;have c8:=((o.alloc (cl #[pn (E ⟨d,b.length*6,O⟩)] 232)).alloc (cl #[.func (.func 182) #[] #[pn (E (Xd c.heap.size 0 O))]] 222)).box;have z:=((o.alloc (cl #[pn (E ⟨d,b.length*6,O⟩)] 232)).alloc (cl #[.func (.func 182) #[] #[pn (E (Xd c.heap.size 0 O))]] 222)).drew;have v:((c.alloc (cl #[pn (E ⟨d,b.length*6,O⟩)] 232)).alloc (cl #[.func (.func 182) #[] #[pn (E (Xd c.heap.size 0 O))]] 222)).drew.cell? ⟨c.heap.size+1,0,O⟩=E (ZA c.heap.size):=by
   have:=(ZU (c.alloc (cl #[pn (E ⟨d,b.length*6,O⟩)] 232)) 222 (ZA c.heap.size)).cell;rwa [zL]at this
  have B:((c.alloc (cl #[pn (E ⟨d,b.length*6,O⟩)] 232)).alloc (cl #[.func (.func 182) #[] #[pn (E (Xd c.heap.size 0 O))]] 222)).drew.cell? (Xd c.heap.size 0 O)=E (pn (E ⟨d,b.length*6,O⟩)):=
   ((ZU c 232 (pn (E ⟨d,b.length*6,O⟩))).alloc _).cell
  have y:c.heap.size≠w.heap.size+1+1:=by have:=o.lt (w.heap.size+1+1) sp;omega
  have D:=o.bel.size;have C:∀g,(V m (b.length+1) l).ownBlock=E g->g≠c.heap.size:=fun g e=>by have:=(o.own.lt g e).2;omega
  have J:b.length<=900:=om;have a0:Wr M c ((c.alloc (cl #[pn (E ⟨d,b.length*6,O⟩)] 232)).alloc (cl #[.func (.func 182) #[] #[pn (E (Xd c.heap.size 0 O))]] 222)).drew:=(Xg (zaA c _ _)).trans (Xn _ _);have a1:((c.alloc (cl #[pn (E ⟨d,b.length*6,O⟩)] 232)).alloc (cl #[.func (.func 182) #[] #[pn (E (Xd c.heap.size 0 O))]] 222)).drew.cell? ⟨w.heap.size+1+1+1,0,O⟩=E (V (E (Xd d 0 O)) n n):=((zn.alloc 0 c _).trans (zn.alloc 0 _ _)).cell a8;have a5:c.heap.size<=((c.alloc (cl #[pn (E ⟨d,b.length*6,O⟩)] 232)).alloc (cl #[.func (.func 182) #[] #[pn (E (Xd c.heap.size 0 O))]] 222)).drew.heap.size:=so;obtain⟨S,hA6⟩:∃S,((c.alloc (cl #[pn (E ⟨d,b.length*6,O⟩)] 232)).alloc (cl #[.func (.func 182) #[] #[pn (E (Xd c.heap.size 0 O))]] 222)).drew=S:=⟨_,rfl⟩;have a3:Hid (∀(g f:Nat) (h:H),Pls w.heap.size w (h.setCell ⟨w.heap.size+1+1,0,O⟩ (V (E (Xd g 0 O)) (b.length+1+1) f)) (w.heap.size+1+1) w.heap.size zbB (b ++ [c.heap.size]) (fun j=>⟨d,j*6,O⟩) [w.heap.size+1+1+1] (E (Xd g 0 O)) f->
   Wr (fun x=>x=w.heap.size+1+1\/(V m (b.length+1) l).ownBlock=E x) S (h.setCell ⟨w.heap.size+1+1,0,O⟩ (V (E (Xd g 0 O)) (b.length+1+1) f))->((V m (b.length+1) l).ownBlock=E g\/S.heap.size<=g)->
   Wr M c (h.setCell ⟨w.heap.size+1+1,0,O⟩ (V (E (Xd g 0 O)) (b.length+1+1) f))/\∃M':Nat->Prop,(b.length+1<=n/\∃ai a6 af,ai.length=b.length+1/\Pls w.heap.size w (h.setCell ⟨w.heap.size+1+1,0,O⟩ (V (E (Xd g 0 O)) (b.length+1+1) f)) (w.heap.size+1+1) w.heap.size zbB ai (fun j=>⟨d,j*6,O⟩) [w.heap.size+1+1+1] a6 af/\
    (h.setCell ⟨w.heap.size+1+1,0,O⟩ (V (E (Xd g 0 O)) (b.length+1+1) f)).cell? ⟨w.heap.size+1+1+1,0,O⟩=E (V (E (Xd d 0 O)) n n)/\∀x,M' x↔x=w.heap.size+1+1\/(V a6 (b.length+1+1) af).ownBlock=E x)/\∀x,M' x->M x\/A.heap.size<=x):=by
   intro g f h r q t;rw[hA6]at a0 a1 a5;refine⟨a0.trans (q.mono fun x P=>(I x).2 P),fun x=>x=w.heap.size+1+1\/(V (E (Xd g 0 O)) (b.length+1+1) f).ownBlock=E x,⟨om,_,_,_,sp,r,?_,fun _=>Qb⟩,fun x P=>?_⟩
   ·refine q.cell (p:=⟨w.heap.size+1+1+1,0,O⟩) (fun e=>?_) a1;rcases e with e|e
    ·simp at e
    ·exact o.sep _ e (w.heap.size+1+1+1) sp rfl
   ·rcases P with e|e
    ·exact .inl ((I x).2 (.inl e))
    ·have aq:x=g:=by simpa[Value.ownBlock]using e.symm
     subst aq;rcases t with e2|e2
     ·exact .inl ((I _).2 (.inr e2))
     ·exact .inr om
  rw[<-hA6]at a3;clear hA6 a0 a1 a5 a8 X I i o HZ a4;gi_wp2;refine jX hm ?_;try(change wpAnyIn _ _ _ _ _ _ _ _ _ (World.drew _))
  refine rj2 0 1 (h:=fun K a=>?_) (h1:=fun K a=>?_);go_simp;refine a _ _ ?_;clear a K;refine rj1 1 (h:=fun K a=>?_);go_simp;refine a _ _ ?_;clear a K;refine rj1 2 (h:=fun K a=>?_);go_simp;refine a _ _ ?_;clear a K;refine rj1 3 (h:=fun K a=>?_);go_simp;refine a _ _ ?_;clear a K;refine rj1 4 (h:=fun K a=>?_);go_simp;refine(Zq Q (zq.2 (jn _ _))).mono ?_;rintro e R ⟨rfl,rfl⟩;simp only[];refine a _ _ ?_;clear a K;refine rj1 5 (h:=fun K a=>?_);go_simp;refine a _ _ ?_;clear a K;refine rj1 6 (h:=fun K a=>?_);refine JT _ rfl (.tmp 15) (.tmp 20) rfl z J rfl rfl v B D y C ?_;intro g f h r q t L N;refine a _ _ ?_;clear a K;refine rj1 7 (h:=fun K a=>?_);go_simp;refine a _ _ ?_;clear a K;refine Q4 kr ?_ _;rotate_left;go_simp;refine a _ _ ?_;clear a K;refine rj2 0 2 (h:=fun K a=>?_) (h1:=fun K a=>?_);go_simp;refine a _ _ ?_;clear a K;refine rj1 2 (h:=fun K a=>?_);go_simp;refine a _ _ ?_;clear a K;refine rj1 3 (h:=fun K a=>?_);go_simp;refine a _ _ ?_;clear a K;refine rj1 4 (h:=fun K a=>?_);go_simp;refine(Zq Q (zq.2 (jn _ _))).mono ?_;rintro e R ⟨rfl,rfl⟩;simp only[];refine a _ _ ?_;clear a K;refine rj1 5 (h:=fun K a=>?_);go_simp;refine a _ _ ?_;clear a K;refine rj1 6 (h:=fun K a=>?_);refine JT _ rfl (.tmp 15) (.tmp 20) rfl z J rfl rfl v B D y C ?_;intro g f h r q t L N;refine a _ _ ?_;clear a K;refine rj1 7 (h:=fun K a=>?_);go_simp;refine a _ _ ?_;clear a K;refine Q4 kr ?_ _;rotate_left;go_simp;refine a _ _ ?_;clear a K;refine rj2 0 3 (h:=fun K a=>?_) (h1:=fun K a=>?_);go_simp;refine a _ _ ?_;clear a K;refine rj1 3 (h:=fun K a=>?_);go_simp;refine a _ _ ?_;clear a K;refine rj1 4 (h:=fun K a=>?_);go_simp;refine(Zq Q (zq.2 (jn _ _))).mono ?_;rintro e R ⟨rfl,rfl⟩;simp only[];refine a _ _ ?_;clear a K;refine rj1 5 (h:=fun K a=>?_);go_simp;refine a _ _ ?_;clear a K;refine rj1 6 (h:=fun K a=>?_);refine JT _ rfl (.tmp 15) (.tmp 20) rfl z J rfl rfl v B D y C ?_;intro g f h r q t L N;refine a _ _ ?_;clear a K;refine rj1 7 (h:=fun K a=>?_);go_simp;refine a _ _ ?_;clear a K;refine Q4 kr ?_ _;rotate_left;go_simp;refine a _ _ ?_;clear a K;refine rj2 0 4 (h:=fun K a=>?_) (h1:=fun K a=>?_);go_simp;refine a _ _ ?_;clear a K;refine rj1 4 (h:=fun K a=>?_);go_simp;refine(Zq Q (zq.2 (jn _ _))).mono ?_;rintro e R ⟨rfl,rfl⟩;simp only[];refine a _ _ ?_;clear a K;refine rj1 5 (h:=fun K a=>?_);go_simp;refine a _ _ ?_;clear a K;refine rj1 6 (h:=fun K a=>?_);refine JT _ rfl (.tmp 15) (.tmp 20) rfl z J rfl rfl v B D y C ?_;intro g f h r q t L N;refine a _ _ ?_;clear a K;refine rj1 7 (h:=fun K a=>?_);go_simp;refine a _ _ ?_;clear a K;refine Q4 kr ?_ _;rotate_left;go_simp;refine(Zq Q (zq.2 (jn _ _))).mono ?_;rintro e R ⟨rfl,rfl⟩;simp only[];refine a _ _ ?_;clear a K;refine rj2 0 5 (h:=fun K a=>?_) (h1:=fun K a=>?_);go_simp;refine a _ _ ?_;clear a K;refine rj1 5 (h:=fun K a=>?_);go_simp;refine a _ _ ?_;clear a K;refine rj1 6 (h:=fun K a=>?_);refine JT _ rfl (.tmp 15) (.tmp 20) rfl z J rfl rfl v B D y C ?_;intro g f h r q t L N;refine a _ _ ?_;clear a K;refine rj1 7 (h:=fun K a=>?_);go_simp;refine a _ _ ?_
  clear a K;refine Q4 kr ?_ _;rotate_left;go_simp;refine a _ _ ?_;clear a K;refine rj1 0 (h:=fun K a=>?_);go_simp;refine a _ _ ?_;clear a K;refine rj1 6 (h:=fun K a=>?_);refine JT _ rfl (.tmp 15) (.tmp 20) rfl z J rfl rfl v B D y C ?_;intro g f h r q t L N;refine a _ _ ?_;clear a K;refine rj1 7 (h:=fun K a=>?_);go_simp;refine a _ _ ?_;clear a K;refine Q4 kr ?_ _;rotate_left;all_goals
   gi_wp2;exact a3.out g f h r q t
 case done=>
  rintro T M A hD ⟨h1,b,m,l,Y,i,X,I⟩ hd;rw[ji]at Y;subst Y;obtain⟨g,rfl,_,_,al,an,ab⟩:=i.row;have c0:=i.box;have HF:=zf (zih s hs zbB w.heap.size b (fun j=>3*j) d zs g l A om om al an ab i.q0c om
   (fun j ah hq=>⟨by have:=(i.new.2.2.2 ah (zx hq)).1;omega,by have:=i.qsc j ah hq;rw[show 2*(3*j)=j*6 by omega];exact this,by have:=(zo.1 hq).1;omega⟩) (HZ.out.below i.bel))
  have ak:=i.bel;clear i I X ab;gi_wp2;refine(zq.2 HF.out).mono ?_;rintro e Z ⟨rfl,ad,ae⟩;have au:w.heap.size<T:=by simp at hD;omega
  have a9:=ad.some hd om;have aa:zn w.heap.size Z (Z.putObj T (.deferred O)):=zn.putObj (.deferred O) om a9 rfl;have aj:=zf ae;clear ae;gi_wp2;refine qh a9 ?_;refine⟨_,by simp[results,results71,go_sem],rfl,((Xg ak).trans ad).keep aa,fun hl=>(aj.out hl).keep aa⟩
 case stop=>
  rintro T a7 k A hD hk F hd;exact F.elim
 ·obtain⟨_,_,rfl⟩:=qP.1 u;rfl
end

section
open Go.RowKit
variable {zs:List Int}
theorem zfu(a:Nat->Nat)(i:Nat):∀(r:List (List UInt8)) (k:Nat) (zs:List Int),(∀j,j<r.length->a (k+j)≠i)->(zbh a k zs r).getD i 0=zs.getD i 0
 |[],k,zs,_=>rfl
 |x::r,k,zs,h=>by
  rw[zbh,zfu a i r (k+1) _ (fun j c=>by have:=h (j+1) so;rwa [show k+(j+1)=k+1+j by omega]at this)];have b:=h 0 sp;rw[qV]at b;simp only[zk,zal b]
theorem zhZ(c:Nat->Nat)(g:∀a b,c a=c b->a=b):∀(r:List (List UInt8)) (k:Nat) (zs:List Int) (j:Nat),j<r.length->c (k+j)<zs.length->(zbh c k zs r).getD (c (k+j)) 0=T.wZ (r.getD j [])
 |[],k,zs,j,d,_=>by simp at d
 |x::r,k,zs,0,_,f=>by
  rw[qV]at f⊢;rw[zbh,zfu c _ r (k+1) _ (fun j d e=>by have:=g _ _ e;omega)];simp only[zk,jZ f];rfl
 |x::r,k,zs,j+1,d,f=>by
  rw[zbh,show k+(j+1)=k+1+j by omega,zhZ c g r (k+1) _ j (by simpa using d) (by rw[qX,show k+1+j=k+(j+1)by omega];exact f)];simp
theorem zqF{r:List (List UInt8)}(h:zs.length=r.length):zbh id 0 zs r=r.map T.wZ:=by
 refine List.ext_getElem (by rw[zeh,zm,h]) fun j c a=>?_
 rw[zm]at a;have b:=zhZ id (fun d d e=>e) r 0 zs j a so;simp only[id,qt,zk,zg c,zg a,qB]at b;rw[b,zaJ]
theorem zqG{p:qF}{ws:List (List UInt8)}(h:zft p zs)(hrg:p.rg= [])(hl:ws.length=p.n+1):zft { p with mx:=(ws.drop 1).map T.wZ } (zbh (fun j=>3*j) 0 zs (ws.drop 1)):=by
 have hd:(ws.drop 1).length=p.n:=by rw[Za];omega
 refine⟨by rw[zeh];exact h.1,fun k hk=>?_,fun k hk=>by simp[hrg]at hk⟩;have hk2:k<p.n:=by simp at hk;omega
 have:=zhZ (fun j=>3*j) (fun a b e=>by have e':=e;omega) (ws.drop 1) 0 zs k om (by have:=h.1;simp;omega);simp only[qt]at this;rw[this];simp only[zk,zR,zg (show k<(ws.drop 1).length by omega),qY,qB]
theorem znE{p:qF}{a:List (List UInt8)}{m:Nat}(h:zft p zs)(hm:p.rg.length=m)(c:m<p.n)(b:a.length=3):
 zft { p with rg:=p.rg ++ [(T.wZ (a.getD 1 []),T.wZ (a.getD 2 []))] } (zbh (fun j=>3*m+1+j) 0 zs (a.drop 1)):=by
 have b:(a.drop 1).length=2:=by rw[Za];omega
 have c:=zhZ (fun j=>3*m+1+j) (fun b d e=>by have f:=e;omega) (a.drop 1) 0 zs;have d:(a.drop 1).getD 0 []=a.getD 1 []:=by simp[zk]
 have f:(a.drop 1).getD 1 []=a.getD 2 []:=by simp[zk]
 refine⟨by rw[zeh];exact h.1,fun k a=>?_,fun k a=>?_⟩
 ·rw[zfu _ _ _ _ _ (fun j b e=>by simp at e;omega)];exact h.2.1 k a
 ·simp only[zM,ZH]at a;by_cases a:k<m
  ·rw[zfu _ _ _ _ _ (fun j b e=>by simp at e;omega),zfu _ _ _ _ _ (fun j b e=>by simp at e;omega)];have:=h.2.2 k om;simp only[zk,zS (show k<p.rg.length by omega)]at this⊢;exact this
  ·obtain rfl:k=m:=om;have a:=c 0 om (by have:=h.1;simp;omega);have b:=c 1 om (by have:=h.1;simp;omega);simp only[qt,qV]at a b;rw[d]at a;rw[f]at b;rw[a,show 3*k+2=3*k+1+1 by omega,b];simp only[zk,zG (show p.rg.length<=k by omega),hm,Qn];exact⟨rfl,rfl⟩
open Go.ChangeShapes Go.WideShapes Go.ChangeAt Go.RowKit
theorem zgk{k:Type}{enc:TypeId×Value->k}{a:Assume}{C:Checked}{os:Os}{f:FuncId}{b:Func}{s:ChangeSpec}{h:List PathCond}{apart fresh o m:Bool}{X:H->Array Value->Prop}(u:∀(w w':H) (args:Array Value),w.heap=w'.heap->X w args->X w' args)(own:ownKnob C.prog.godebug=O)(Q:os.Started)(P:C.prog.inits.idxOf? f=O)(z:C.prog.funcs[f]? =E b)(R:∃(w:H) (c:Tape) (i:Input),w.os=os/\(w.forCall c i).Shaped C.prog/\i.vars= []/\Input.okWide C.prog (w.forCall c i) .any w.heap.size f i/\
  ((s.pre enc C.prog b h apart (w.forCall c i).memory i.args/\X (w.forCall c i).memory i.args)/\sizedMet enc C.prog b (OpenSpec.ofChange s) apart (w.forCall c i).memory i.args)/\a.holds C.prog (lone (Frame.enter C.prog f i.args .normal) [] (w.forCall c i)))(q:∀(W:H) (base:Nat) (args:Array Value) (ds d:List (DataW k)) (g:List MemPlace),
  (∀(j:Nat) t v,b.params[j]? =E t->args[j]? =E v->Value.okWide C.prog W .any base t v)->
  DataW.Whole enc C.prog b.params.toList s.vars apart W args.toList ds d g->
  h.all (PathCond.test C.prog ⟨b.params.toList,ds,s.plain.varTypes C.prog,d⟩)=true->
  (DataW.weightsEach C.prog (b.params.toList++s.plain.varTypes C.prog) (ds++d)).all (·<=reachBytes)=true->X W args->
  W.ShapedOpen C.prog->
  a.holds C.prog (lone (Frame.enter C.prog f args .normal) [] W)->
  Calls C.prog f args W fun e l=>∃v,e=Xa v/\s.post enc C.prog b apart fresh o m W args v l):
 ReturnsInHanded a C os f .any (fun w args=>(s.pre enc C.prog b h apart w args/\X w args)/\sizedMet enc C.prog b (OpenSpec.ofChange s) apart w args) (s.post enc C.prog b apart fresh o m):=by
 refine returnsInHanded_of_calls own Q P R ?_;intro w c i _ J _ D I B;obtain⟨_,_,_,r,A,_,_,_,_,K⟩:=D;have e:=Q8 (A.symm.trans z);subst e;obtain⟨⟨⟨ds,d,g,p,x⟩,M⟩,N⟩:=I;have L:=DataW.Whole.of_heap (w':=w.forCall c i) (by rfl) p;refine(q (w.forCall c i) w.heap.size i.args ds d g K L x (N.weights p) (u _ _ _ (by rfl) M) J B).mono fun e l ⟨v,y,F⟩=>?_
 subst y;exact ChangeSpec.post_blind F
theorem znF{H:Type}{enc:TypeId×Value->H}{P:Program}{f:Func}{s:ChangeSpec}{apart fresh handsOn:Bool}{W W':World}{args:Array Value}{v:Value}{ds gs:List (DataW H)}{before pa pv:List MemPlace}(hW:DataW.Whole enc P f.params.toList s.vars apart W args.toList ds gs before)(hres:∀(b:Nat) (sp:Nat->Bool) (hd:Bool),DataW.TrodAll enc P W' b sp hd f.resultTypes.toList (v.resultList f.resultTypes.size) (s.fn H (ds++gs)).results [])(hargs:∀sp:Nat->Bool,(∀p∈before,sp p.block=true)->DataW.TrodAll enc P W' 0 sp true f.params.toList args.toList (s.fn H (ds++gs)).args pa)(hvars:∀sp:Nat->Bool,(∀p∈before,sp p.block=true)->DataW.TrodVars enc P W' sp s.vars (s.fn H (ds++gs)).vars pv)(hps:before=pa++pv)(hb:Below W.heap.size W W'):
 s.post enc P f apart fresh handsOn false W args v W':=by
 have hold:∀p∈before,(fun b=>decide (b<W.heap.size)) p.block=true:=fun p hp=>by simpa using hW.lt p hp
 refine⟨ds,gs,before,[],pa,pv,hW,hres _ _ _,hargs _ hold,hvars _ hold,World.keptBut_mono (fun p hp=>⟨hp,?_⟩) (hb.frame _),fun h=>by cases h⟩;rw[hps,zU]at hp;exact Or.inr hp
theorem own:ownKnob Tryz.prog.godebug=O:=kr
theorem tab_of_laid{W:H}(h:laidMetH pg Rows.foundRow.laid W):Tab W:=by
 rw[MakeChecks.laidMetH_plain _ _ _ kr]at h;have a:=(h.tail).tail;exact Lib.tabIs_of_head (k:= .u64) (zs:=Lib.pow10Tab) (show Tryz.prog.globalNamed "internal/strconv.uint64pow10" =E 0 by kernel_rfl) (t:=216) kr underlying216 underlying147 kr kr a
theorem wf_bd{a:Int}(h:(Lit.int Xb a).wf=true):-9223372036854775808<=a/\a<=9223372036854775807:=by
 simpa[Lit.wf,IntKind.min,IntKind.max,IntKind.signed,IntKind.bits]using h
end

section
variable {A w w':H}{B a b cap g gr n:Nat}{P:Program}{zs:List Int}
theorem zlQ(c:UInt8)(l r:List UInt8)(h:∀x∈l,x≠c):Lib.cut (l++c::r) [c]=(l,r,true):=by
 induction l with
 |nil=>exact zix c r
 |cons x l a=>rw[ZZ,zfJ (h x sp),a (fun y a=>h y (by simp[a]))]
theorem zoH(c:UInt8)(l:List UInt8)(h:∀x∈l,x≠c):Lib.cut l [c]=(l,[],false):=by
 induction l with
 |nil=>exact zqf c
 |cons x l a=>rw[zfJ (h x sp),a (fun y a=>h y (by simp[a]))]
theorem zmA(f:Nat):∀(g:Nat) (l:List UInt8),l.length<=f->l.length<=g->JA f l=JA g l:=by
 induction f with
 |zero=>
  intro g l h _;have:l= []:=Qk.1 om;rw[this,zbN,zbN]
 |succ f e=>
  intro g l h i;by_cases a:l= []
  ·rw[a,zbN,zbN]
  ·cases g with
   |zero=>exact absurd (Qk.1 om) a
   |succ g=>
    rw[JA,JA,zO a,zO a];have d:=zdk 10 l;by_cases b:(Lib.cut l [10]).2.2=true
    ·rw[zQ b]at d;rw[e g _ om om]
    ·have c:=zjU (by simpa using b);rw[c];simp only[zbN]
theorem znI(l r:List UInt8)(h:∀x∈l,x≠10):QW (l++10::r)=(l,true)::QW r:=by
 have a:=zlQ 10 l r h;unfold QW;rw[show(l++10::r).length=(l.length+r.length)+1 by simp;omega,JA,zO sp,a];rw[zmA (l.length+r.length) r.length r om om]
theorem zmB(f:Nat):∀(g:Nat) (l:List UInt8),l.length<f->l.length<g->zaD f l=zaD g l:=by
 induction f with
 |zero=>intro g l h;omega
 |succ f c=>
  intro g l h a;cases g with
  |zero=>omega
  |succ g=>
   rw[zaD,zaD];have b:=zdk 32 l;by_cases a:(Lib.cut l [32]).2.2=true
   ·rw[zQ a]at b;rw[zQ a,zQ a,c g _ om om]
   ·rw[zO a,zO a]
theorem zjj(l r:List UInt8)(h:∀x∈l,x≠32):Zb (l++32::r)=l::Zb r:=by
 have a:=zlQ 32 l r h;unfold Zb;rw[zaD,a];simp only[zbu];rw[zmB (l++32::r).length (r.length+1) r so om]
theorem zkA(l:List UInt8)(h:∀x∈l,x≠32):Zb l= [l]:=by
 unfold Zb;rw[zaD,zoH 32 l h];simp
theorem zkB{l:List UInt8}(h:Qm l=true):∀c∈l,c≠32/\c≠10:=by
 intro c b;have a:=zgB (Zi.1 h c b);constructor<;>(rintro rfl;simp at a)
theorem zgG(z:Int):∀c∈Lib.itoa z,c≠32/\c≠10:=by
 intro c a;unfold Lib.itoa at a;split at a
 ·rcases zI.1 a with rfl|a
  ·exact⟨dc,dc⟩
  ·exact zkB (zhY _) c a
 ·exact zkB (zhY _) c a
theorem zqI(z:Int)(h:z.natAbs<10^40):dOk (Lib.itoa z)=true:=by
 have b:=zbS 40 _ h om;have a:=zrH z.natAbs;unfold dOk T.okD;rw[(zhn z).1,zhY];simp only[Bool.and_true,Qj,Z9];exact⟨by intro e;rw[e]at a;simp at a,b⟩
theorem zrP(z:Int):T.wZ (Lib.itoa z)=z:=by
 unfold T.wZ;rw[(zhn z).1,(zhn z).2,zrL,zrM]
open Go.RowKit
theorem zqJ{z:Array Value}{k:Nat}(b:∀u∈z.toList,ZM u):∀u∈(madeCells z k).toList,ZM u:=by
 intro u a;simp[madeCells]at a;obtain⟨j,_,rfl⟩:=a;by_cases a:0<z.size
 ·have hm:j%z.size<z.size:=Z0 _ a;refine b _ ?_;rw[getElem!_pos z (j%z.size) hm];simp
 ·have a:z.size=0:=om;intro n e;have:z=#[]:=Array.eq_empty_of_size_eq_zero a;subst this;simp at e;cases e
theorem zcM{F:Fence}{c:Code}{Q:Exit->Act->H->Prop}{a:Act}{w:H}(h:c.wpIn F n P (fun e a w=>match e with|.normal=>Q .normal a w|_=>False) a w):c.wpIn F n P Q a w:=
 zbI h (fun e a w h=>by cases e with|normal=>exact h|_=>exact h.elim)
def TwoP (B:Nat)(w A3 AA:H)(a gpl q0:Nat)(wd:List UInt8)(qs:List Nat)(pt:Nat->Addr)(xs:List Nat)(own:Option Nat)(g cap:Nat)(y1 y2:Value):Prop:=
 Below B w AA/\Wr (fun x=>x=gpl\/own=E x) A3 AA/\
  (∀i fv,(QY q0::(qs.map ZA ++ [jP a,ZA (a+1)]))[i]? =E fv->AA.cell? (Xd g i O)=E fv)/\
  AA.cell? (Xd gpl 0 O)=E (V (E (Xd g 0 O)) (qs.length+1+2) cap)/\AA.cell? (Xd q0 0 O)=E (gS ⟨wd.toArray⟩)/\
  (∀j q,qs[j]? =E q->AA.cell? (Xd q 0 O)=E (pn (E (pt j))))/\AA.cell? (Xd a 0 O)=E y1/\AA.cell? ⟨a+1,0,O⟩=E y2/\
  B<=g/\(∀x∈gpl::q0::(qs++xs),g≠x)/\qs.length+3<=cap/\cap<=9223372036854775807
theorem ze5{d h:H}{m:Nat}{c:List UInt8}{b:List Nat}{pt:Nat->Addr}{xs:List Nat}{i:Option Addr}{j:Nat}{e k:Value}(f:Pls B w A a m c b pt xs i j)(r:zn B A d)(l:d.heap.size=A.heap.size+1+1+1)(h1:d.cell? (Xd A.heap.size 0 O)=E e)(h2:d.cell? ⟨A.heap.size+1,0,O⟩=E k)(y:h.ownsRow B 222 1 (V (E (Xd g 0 O)) (b.length+1+2) cap) (b.length+1+2) (QY m::b.map ZA ++ [jP A.heap.size,ZA (A.heap.size+1)]))(hg:d.grownBy h (V i (b.length+1) j).ownBlock)(s:(V i (b.length+1) j).ownBlock=E g\/g=d.heap.size):
 h.cell? (Xd a 0 O)=E (V i (b.length+1) j)/\h.frozen? (Xd a 0 O)=false/\Hid (TwoP B w d (h.setCell (Xd a 0 O) (V (E (Xd g 0 O)) (b.length+1+2) cap)) A.heap.size a m c b pt xs (V i (b.length+1) j).ownBlock g cap e k):=by
 have c:=f.keep r (zh _);have q:∀{x:Nat},x∈a::m::(b++xs)->¬(V i (b.length+1) j).ownBlock=E x:=fun k e=>f.sep _ e _ k rfl
 have v:∀{x:Nat},A.heap.size<=x->¬(V i (b.length+1) j).ownBlock=E x:=fun k e=>by have:=(f.own.lt _ e).2;omega
 have l:Wr (fun x=>(V i (b.length+1) j).ownBlock=E x) d h:=⟨hg.os,hg.tape,hg.output,hg.size,fun o r e=>hg.block o r (fun r=>e r.symm)⟩;have M:=c.lt a sp;have u:∀x∈a::m::(b++xs),g≠x:=by
  intro x k;rcases s with e|e
  ·exact f.sep g e x k
  ·have:=c.lt x k;omega
 have k:=f.lt a sp;have t:=l.cell (p:=(Xd a 0 O)) (q sp) c.box;have D:Below B w h:=⟨hg.os.trans c.bel.os,hg.tape.trans c.bel.tape,hg.output.trans c.bel.output,zF c.bel.size hg.size,fun o k=>(hg.block o (by have:=c.bel.size;have:=f.le;omega) (fun e=>by have:=(f.own.lt o e.symm).1;omega)).trans (c.bel.block o k)⟩;have L:∀k fv,(QY m::(b.map ZA ++ [jP A.heap.size,ZA (A.heap.size+1)]))[k]? =E fv->h.cell? (Xd g k O)=E fv:=by
  intro k fv s;have r:=y.cells (g:=g) rfl k fv (by simpa using s);have e:(⟨g,0,O⟩:Addr).add k=⟨g,k,O⟩:=by
   unfold Addr.add;split
   ·rename_i z;rw[z]
   ·simp
  rw[e]at r;exact r
 obtain⟨F,J,K⟩:B<=g/\b.length+3<=cap/\cap<=9223372036854775807:=by
  obtain⟨_,h1|⟨_,_,_,z,I,_,_,C,r,_⟩⟩:=y;·exact absurd h1.1 sp
  ·simp only[qp,qN,Jg]at z;obtain⟨⟨rfl,_,_⟩,_,rfl⟩:=z;exact⟨I,om,by unfold maxLen at C;omega⟩
 have y:=u a sp;refine⟨t,?_,D.setCell (p:=(Xd a 0 O)) f.new.1 _,?_,fun k fv s=>?_,zN _ _ _ t,?_,fun z r t=>?_,?_,?_,F,u,J,K⟩
 ·have u:h.frozen? (Xd a 0 O)=d.frozen? (Xd a 0 O):=qw (w:=d) (l.block a M (q sp));exact u.trans c.fro
 ·exact Xq (T:=fun x=>x=a\/(V i (b.length+1) j).ownBlock=E x) (l.mono (fun o e=>Or.inr e)) (p:=(Xd a 0 O)) (Or.inl rfl) _
 ·rw[qj _ _ _ _ (by simpa using Qr y)];exact L k fv s
 ·rw[qj _ _ _ _ (by simpa using f.new.2.1)];exact l.cell (p:=(Xd m 0 O)) (q sp) c.q0c
 ·have hm:=zx t;rw[qj _ _ _ _ (by simpa using Qr (f.new.2.2.2 r hm).2)];exact l.cell (p:=(Xd r 0 O)) (q (by simp[hm])) (c.qsc z r t)
 ·rw[qj _ _ _ _ so];exact l.cell (p:=(Xd A.heap.size 0 O)) (v (zh _)) h1
 ·rw[qj _ _ _ _ so];exact l.cell (p:=⟨A.heap.size+1,0,O⟩) (v sp) h2
def zcN (W:H)(b:Nat):Prop:=¬qQ W b 75/\∀(o:Nat) (v:Value),W.cell? (Xd b o O)=E v->∀n,v≠it .u32 n
theorem zcN.of{k:Nat}(h:¬qQ w k 75)(a:qK w k):zcN w k:=⟨h,a.2⟩
theorem zmC{cs:Array Value}{t:TypeId}{a:Nat×Nat}(h:w.heap[g]? =E (cl cs t a))(c:t≠75)(b:∀v∈cs.toList,ZM v):zcN w g:= .of (fun a=>c (qQ.one ⟨_,_,h⟩ a)) (zE h b)
theorem zmD{o:Obj}(h:w.heap[g]? =E o)(ho:o.isCells=false):zcN w g:=by
 refine⟨fun⟨cs,_,a⟩=>?_,fun p x c=>?_⟩
 ·rw[h]at a;cases a;cases ho
 ·obtain⟨_,a,b⟩:=cells_of_cell c;simp only at a;rw[h]at a;cases a;rw[ho]at b;cases b
theorem NatV.wrN{T:Nat->Prop}{v:Value}(h:NatV w v n)(e:Wr T w w')(m:∀k,T k->zcN w k):NatV w' v n:=by
 obtain⟨a,⟨b,c,i,f,g⟩,d⟩:=h;refine⟨a,⟨b,c,i,f,fun c=>?_⟩,d⟩;obtain⟨b,off,i,l,d⟩:=g c;have j:¬T b:=by
  intro f;have g:=ZC.2 c;exact(m b f).2 _ _ (d 0 g) _ rfl
 exact⟨b,off,i,zK l e.size,fun i a=>e.cell j (d i a)⟩
theorem zy.wrN{T:Nat->Prop}{x:Value}{z:Int}(h:zy w x z)(f:Wr T w w')(e:∀k,T k->zcN w k):zy w' x z:=by
 obtain⟨b,v,a,c,d⟩:=h;exact⟨b,v,a,c.wrN f e,d⟩
theorem Zo.wrN{U:Nat->Prop}{v:Value}(h:Zo w v zs)(b:Wr U w w')(a:∀k,U k->zcN w k):Zo w' v zs:=by
 obtain⟨f,c,d,e⟩:=h;exact⟨f,c,d.wr b (fun k c=>(a k c).1),fun i t z c d=>(e i t z c d).wrN b a⟩
def zaa (B:Nat)(W:H)(b:Nat):Prop:=B<=b/\((∃(x:Int) (fr:Nat×Nat),W.heap[b]? =E (cl #[it Xb x] 3 fr))\/∃(x:Bool) (fr:Nat×Nat),W.heap[b]? =E (cl #[G x] 4 fr))
def SeqQ (P:Program)(g:Nat)(lb:Array Value)(n:Nat)(Y:Nat->Array Value->H->Prop)(C:H->Prop):Prop:=
 ∀(l:Nat) (J:Nat->(Nat->Prop)->H->Prop) (Jx:Nat->H->Prop) (M0:Nat->Prop) (W:H),
  (∀k M A B,J k M A->zn W.heap.size A B->J k M B)->(∀k A B,Jx k A->zn W.heap.size A B->Jx k B)->
  (∀k M A B,J k M A->Wr (zaa W.heap.size A) A B->J k M B)->(∀k A B,Jx k A->Wr (zaa W.heap.size A) A B->Jx k B)->
  (∀k M A,J k M A->C A/\∀x,M x->x<A.heap.size/\zcN A x)->
  (∀k v M W1,k<n->Y k v W1->J k M W1->YieldAt Fence.wide 0 P l v W1 fun e W'=>
   (e=Xa (G true)/\Wr M W1 W'/\∃M',J (k+1) M' W'/\∀x,M' x->M x\/W1.heap.size<=x)\/(e=Xa (G false)/\Wr M W1 W'/\Jx k W'))->
  J 0 M0 W->
  Calls P g (#[.func (.yield l) #[] #[]]++lb) W fun e W'=>(∃v,e=Xa v)/\((∃M,J n M W')\/∃k,k<n/\Jx k W')
theorem Ja.own{a:Array Value}{Y:Nat->Array Value->H->Prop}{C:H->Prop}(h:Ja P g a n Y C):SeqQ P g a n Y C:=
 fun l J b c W d e _ _ a f i=>h l J b c W d e (fun k M A b=>⟨(a k M A b).1,fun x c=>((a k M A b).2 x c).1⟩) f i
theorem ze6{g:Operand}{ps:Array Tmp}{assign body:Code}{Q:Exit->Act->H->Prop}{a:Act}{w:H}{gf:Nat}{lb:Array Value}{N0:Nat}{Y:Nat->Array Value->H->Prop}{C:H->Prop}(hseq:SeqQ P gf lb N0 Y C)(hg:a.eval g= .func (.func gf) #[] lb)(eg:∀args w,(callFunc gf args).run P w= .ok (.enter gf args) w)(hps:∀k v W,Y k v W->v.size=ps.size)(I:Nat->(Nat->Prop)->H->Prop)(Ix:Code->Nat->H->Prop)(M0:Nat->Prop)(hI:∀k M A B,I k M A->zn w.heap.size A B->I k M B)(hIx:∀c k A B,Ix c k A->zn w.heap.size A B->Ix c k B)(hI2:∀k M A B,I k M A->Wr (zaa w.heap.size A) A B->I k M B)(hIx2:∀c k A B,Ix c k A->Wr (zaa w.heap.size A) A B->Ix c k B)(hC:∀k M A,I k M A->C A/\∀x,M x->x<A.heap.size/\zcN A x)(h0:I 0 M0 w)(hround:∀(l k:Nat) (v:Array Value) (M:Nat->Prop) (W:H),k<N0->Y k v W->I k M W->Zz P n w.heap.size M I Ix ps assign body a l k v W)(hdone:∀(D:Nat) (M:Nat->Prop) (W:H),D=w.heap.size->(∀x,M x->x<D\/D+2<=x)->I N0 M W->W.heap[D]? =E (.deferred (E []))->Q .normal { a with defers:={ target:= .collected D,args:=#[] } :: a.defers } W)(hstop:∀(D:Nat) (c:Code) (k:Nat) (W:H),w.heap.size<=D->k<N0->Ix c k W->W.heap[D]? =E (.deferred (E []))->c.wpIn Fence.wide n P Q { a with defers:={ target:= .collected D,args:=#[] } :: a.defers } W):
 (Code.rangeFunc g ps assign body).wpIn Fence.wide n P Q a w:=
 zkm (F:=zaa) (NN:=zcN) (fun _ _ _ h=>h.1) (fun _ _ _ _ h k=>⟨zF h k.1,k.2⟩) (fun _ _ _ h ho=>zmD h ho) hseq hg eg hps I Ix M0 hI hIx hI2 hIx2 hC h0 (fun l k v M W a b c=>(hround l k v M W a b c).wk) hdone hstop
theorem zk7(s:List UInt8)(hs:s.length<=2000)(d a n m:Nat)(f:Value)(zs:List Int)(w:H)(hb:Zh w d (V (E (Xd a 0 O)) n n) f)(h:n<=4)(g:m<n)(b:Whs w a zs)(i:zs.length=3*n):
 Calls pg 72 #[pn (E (Xd d 0 O)),gS ⟨s.toArray⟩,it Xb (m:Nat)] w fun e w'=>
  e=Xa (G (zbm Je 2 (Zb s)))/\Wr (fun k=>k=a) w w'/\(zbm Je 2 (Zb s)=true->Whs w' a (zbh (fun j=>3*m+1+j) 0 zs ((Zb s).drop 1))):=by
 obtain⟨_,_,_,_,_⟩:=hb;have d:=b.lt;obtain⟨f,g,h,l⟩:=zeK w (cl #[gS ⟨Je.toArray⟩] 9) (cl #[pn (E ⟨a,m*6+2,O⟩)] 232) (cl #[pn (E ⟨a,m*6+4,O⟩)] 232) (cl #[QY w.heap.size,ZA (w.heap.size+1),ZA (w.heap.size+1+1)] 222);have d:Below w.heap.size w ((((w.alloc (cl #[gS ⟨Je.toArray⟩] 9)).alloc (cl #[pn (E ⟨a,m*6+2,O⟩)] 232)).alloc (cl #[pn (E ⟨a,m*6+4,O⟩)] 232)).alloc (cl #[QY w.heap.size,ZA (w.heap.size+1),ZA (w.heap.size+1+1)] 222)).drew:=((zbt w _ _ _).alloc so _).trans (c:=World.drew _) ⟨rfl,rfl,rfl,zh _,fun _ _=>rfl⟩;have o:=zf (zih s hs Je w.heap.size [w.heap.size+1,w.heap.size+1+1] (fun j=>3*m+1+j) a zs (w.heap.size+1+1+1) 3
  ((((w.alloc (cl #[gS ⟨Je.toArray⟩] 9)).alloc (cl #[pn (E ⟨a,m*6+2,O⟩)] 232)).alloc (cl #[pn (E ⟨a,m*6+4,O⟩)] 232)).alloc (cl #[QY w.heap.size,ZA (w.heap.size+1),ZA (w.heap.size+1+1)] 222)).drew
  om sp sp om
  (fun i fv a=>by
   refine(ze _ _ _ _ _ _ l).trans ?_;match i,a with
   |0,a=>simpa using a
   |1,a=>simpa using a
   |2,a=>simpa using a
   |i+3,a=>simp at a)
  (ze _ _ _ _ _ _ f) om
  (fun j q a=>by
   match j,a with
   |0,a=>
    simp at a;subst a;refine⟨om,?_,om⟩;rw[show 2*(3*m+1+0)=m*6+2 by omega];exact ze _ _ _ _ _ _ g
   |1,a=>
    simp at a;subst a;refine⟨om,?_,om⟩;rw[show 2*(3*m+1+1)=m*6+4 by omega];exact ze _ _ _ _ _ _ h
   |j+2,a=>simp at a)
  (b.below d))
 clear f g h l b;go_enter func72,ntmps72
 go_wp2_with fail
 go_region_with (first|(go_at_call 134;refine(ze2 _ _).mono ?_;rintro e a ⟨rfl,rfl⟩)|(go_at_call 137;refine(jn _ _).mono ?_;rintro e a ⟨rfl,rfl⟩)|(go_at_call 133;refine o.out.mono ?_;rintro e a ⟨rfl,a,b⟩))
 all_goals go_wp2
 all_goals go_ret
 all_goals exact⟨rfl,(Xg d).trans a,b⟩
def zdX (n:Nat)(ws:List (List UInt8)):Bool:=decide (ws.length=n+3/\ws.getD 0 []=JX/\((ws.drop 1).take n).all dOk=true/\jO (ws.getD (n+1) [])=true/\dOk (ws.getD (n+2) [])=true)
def okR (n k:Nat)(x:List UInt8):Bool:=if k=0 then decide (x=JX)else if k<=n then dOk x else if k=n+1 then jO x else dOk x
theorem zm4{b:Type}(f:b->Bool)(d:b)(a:List b)(n:Nat)(h:n+1<=a.length):((a.drop 1).take n).all f=true↔∀j,0<j->j<=n->f (a.getD j d)=true:=by
 rw[Zi];constructor
 ·intro b j c c;rw[zk,zg om];refine b _ ?_;have:a[j]' om=((a.drop 1).take n)[j-1]'(by rw[zX,Za];omega):=by
   rw[List.getElem_take,zcZ];congr 1
   omega
  rw[qB,this];exact zJ _
 ·intro b x a;obtain⟨j,c,rfl⟩:=List.mem_iff_getElem.1 a;rw[zX,Za]at c;have:=b (1+j) om om;rw[zk,zg om]at this;rw[List.getElem_take,zcZ];exact this
theorem zoI(n:Nat)(b:List (List UInt8)):zdS (n+3) (okR n) b=zdX n b:=by
 unfold zdS zdX okR;rw[zaI];constructor
 ·rintro⟨d,a⟩;refine⟨d,?_,(zm4 dOk [] b n om).2 fun j c e=>?_,?_,?_⟩;·simpa using a 0 om
  ·have:=a j om;rwa [zO om,zQ e]at this
  ·have:=a (n+1) om;rwa [zO om,zO om,zQ rfl]at this
  ·have:=a (n+2) om;rwa [zO om,zO om,zO om]at this
 ·rintro⟨d,a,f,g,h⟩;refine⟨d,fun j e=>?_⟩;by_cases c:j=0
  ·subst c;rw[zQ rfl,a];simp
  ·rw[zO c];by_cases a:j<=n
   ·rw[zQ a];exact(zm4 dOk [] b n om).1 f j om a
   ·rw[zO a];by_cases a:j=n+1
    ·rw[zQ a,a];exact g
    ·rw[zO a,show j=n+2 by omega];exact h
def zey (n bf gr:Nat)(zs:List Int)(pre:List (List UInt8))(A:H):Prop:=
 Whs A bf (zbh id 0 zs ((pre.drop 1).take n))/\qK A gr/\(∃sr,A.cell? (Xd gr 0 O)=E (gS sr)/\A.frozen? (Xd gr 0 O)=false/\(n+1<pre.length->sr=⟨(pre.getD (n+1) []).toArray⟩))/\
  (∃z,Q3 A gr 1 z/\(n+2<pre.length->z=T.wZ (pre.getD (n+2) [])))/\A.cell? (Xd gr 3 O)=E (V (E (Xd bf 0 O)) n n)
theorem zey.keep{pre:List (List UInt8)}(h:zey n b gr zs pre w)(a:zn B w w'):zey n b gr zs pre w':=by
 obtain⟨c,d,⟨k,b,e,f⟩,⟨z,g,i⟩,j⟩:=h;exact⟨c.keep a,d.keep a,⟨k,a.cell b,(a.frozen b).trans e,f⟩,⟨z,g.keep a,i⟩,a.cell j⟩
theorem zey.far{pre:List (List UInt8)}(h:zey n b gr zs pre w){a:Addr}{y:Value}(d:w.cell? a=E y)(c:∀k,y≠it .u32 k)(hb:a.block≠b)(hg:a.block≠gr)(v:Value):zey n b gr zs pre (w.setCell a v):=by
 obtain⟨b,e,⟨o,f,g,i⟩,⟨z,j,l⟩,m⟩:=h;exact⟨b.setCell d c hb v,e.far hg v,⟨o,(qj _ _ _ _ hg).trans f,by simpa using g,i⟩,⟨z,j.setCell d c hg v,l⟩,(qj _ _ _ _ hg).trans m⟩
theorem Q3.beside{o p:Nat}{z:Int}(h:Q3 w b o z){y:Value}(f:w.cell? (Xd b p O)=E y)(e:∀k,y≠it .u32 k)(d:p≠o)(h1:p≠o+1)(v:Value):Q3 (w.setCell (Xd b p O) v) b o z:=by
 obtain⟨x,a,q,c,g,i,j,l,m⟩:=h;refine⟨x,a,q,c,?_,?_,j.setCell f e v,by simpa using l,by simpa using m⟩;·rw[zA _ _ _ _ (by intro e;injection e with _ a;exact d a)];exact g
 ·rw[zA _ _ _ _ (by intro e;injection e with _ a;exact h1 a)];exact i
theorem zqK(s:List UInt8)(hs:s.length<=2000)(q0 qr qb n:Nat)(qs:List Nat)(bf gr:Nat)(zs:List Int)(g cap:Nat)(w:H)(hg:g≠bf/\g≠gr)(hn:qs.length=n)(hl:n<=900)(hcap:n+3<=cap)(hcap9:cap<=9223372036854775807)(hzl:zs.length=n)(hbg:bf≠gr)(hrow:∀i fv,(QY q0::(qs.map ZA ++ [jP qr,ZA qb]))[i]? =E fv->w.cell? (Xd g i O)=E fv)(h0:w.cell? (Xd q0 0 O)=E (gS ⟨JX.toArray⟩))(hq0:q0≠bf/\q0≠gr)(hqs:∀j q,qs[j]? =E q->q≠bf/\q≠gr/\w.cell? (Xd q 0 O)=E (pn (E ⟨bf,2*j,O⟩)))(hqr:qr≠bf/\qr≠gr/\w.cell? (Xd qr 0 O)=E (pn (E (Xd gr 0 O))))(hqb:qb≠bf/\qb≠gr/\w.cell? (Xd qb 0 O)=E (pn (E (Xd gr 1 O))))(hst:zey n bf gr zs [] w):
 Calls pg 133 #[gS ⟨s.toArray⟩,V (E (Xd g 0 O)) (n+3) cap] w fun e w'=>
  e=Xa (G (zdX n (Zb s)))/\Wr (fun k=>k=bf\/k=gr) w w'/\(zdX n (Zb s)=true->zey n bf gr zs (Zb s) w'):=by
 have hlen:(QY q0::(qs.map ZA ++ [jP qr,ZA qb])).length=n+3:=by simp[hn]
 have hbl:=hst.1.lt;have hgl:=hst.2.2.2.1.choose_spec.1.lt;have hF:=ziB s hs (QY q0::(qs.map ZA ++ [jP qr,ZA qb])) (okR n) (fun k=>k=bf\/k=gr) (zey n bf gr zs) g cap w
  (fun x hx=>by rcases hx with rfl|rfl<;>assumption) (fun e=>by rcases e with e|e;exact hg.1 e;exact hg.2 e) om om hcap9 hrow (fun pre A B hA hk=>hA.keep hk) (fun pre A a y v hA hy hn ha=>hA.far hy hn om om v) ?_ hst
 ·rw[hlen,zoI]at hF;exact hF
 ·intro k fv hfv;have hnT:∀{q:Nat},q≠bf->q≠gr->¬(q=bf\/q=gr):=fun h1 h2 e=>by rcases e with e|e;exact h1 e;exact h2 e
  by_cases hk0:k=0
  ·subst hk0;simp at hfv;subst hfv;refine⟨_,q0,rfl,ziz,fun pre x W hp hx hw hst=>?_⟩;refine(zfm x JX q0 W (hw.cell (p:=(Xd q0 0 O)) (hnT hq0.1 hq0.2) h0)).mono ?_;rintro e W' ⟨rfl,rfl⟩;refine⟨rfl,Xi _ _,fun _=>?_⟩;obtain rfl:pre= []:=QZ hp;obtain⟨a1,a2,⟨sr,a3,a4,a5⟩,⟨z,a6,a7⟩,a8⟩:=hst;exact⟨a1,a2,⟨sr,a3,a4,fun e=>by simp at e⟩,⟨z,a6,fun e=>by simp at e⟩,a8⟩
  ·obtain⟨j,rfl⟩:∃j,k=j+1:=⟨k-1,om⟩;rw[jg]at hfv;by_cases hjn:j<n
   ·rw[zS so,zR,zg om]at hfv;injection hfv with hfv
    subst hfv;obtain⟨hq1,hq2,hq3⟩:=hqs j _ (zg om);generalize qs[j]=q at *;refine⟨_,q,rfl,ziA,fun pre x W hp hx hw hst=>?_⟩;obtain⟨a1,a2,⟨sr,a3,a4,a5⟩,⟨z,a6,a7⟩,a8⟩:=hst;refine(zig x q bf j (2*j) _ W (hw.cell (p:=(Xd q 0 O)) (hnT hq1 hq2) hq3) rfl a1 (by rw[zeh];omega) hq1 hx).mono ?_;rintro e W' ⟨rfl,hw',hz'⟩;have hok:okR n (j+1) x=dOk x:=by unfold okR;rw[zO om,zQ om]
    rw[hok];refine⟨rfl,hw'.mono (fun k e=>Or.inl e),fun hd=>?_⟩;have hnd:∀k,k=bf->qK W k:=fun k e=>e▸a1.1
    refine⟨?_,a2.wr hw' (Qr hbg),⟨sr,hw'.cell (p:=(Xd gr 0 O)) (Qr hbg) a3,(hw'.frozen (p:=(Xd gr 0 O)) (Qr hbg) (zw a3)).trans a4,fun e=>?_⟩,⟨z,a6.wr hw' (Qr hbg) hnd,fun e=>?_⟩,hw'.cell (p:=(Xd gr 3 O)) (Qr hbg) a8⟩
    ·have e0:(pre.drop 1).length=j:=by rw[Za];omega
     have e1:((pre ++ [x]).drop 1).take n=pre.drop 1 ++ [x]:=by
      rw[jC om,zP (by rw[zM,e0];simp;omega)]
     have e2:(pre.drop 1).take n=pre.drop 1:=zP om;rw[e2]at hz';rw[e1,zhp,e0,qt];exact hz' hd
    ·simp at e;omega
    ·simp at e;omega
   ·rw[zG so,zm,hn]at hfv;by_cases hjr:j=n
    ·subst hjr;simp at hfv;subst hfv;refine⟨_,qr,rfl,zqs,fun pre x W hp hx hw hst=>?_⟩;obtain⟨a1,a2,⟨sr,a3,a4,a5⟩,⟨z,a6,a7⟩,a8⟩:=hst;refine(zh9 x qr gr sr W (hw.cell (p:=(Xd qr 0 O)) (hnT hqr.1 hqr.2.1) hqr.2.2) a3 a4).mono ?_;rintro e W' ⟨rfl,hw',hs'⟩;have hok:okR j (j+1) x=jO x:=by unfold okR;rw[zO om,zO om,zQ rfl]
     rw[hok];refine⟨rfl,hw'.mono (fun k e=>Or.inr e),fun hd=>?_⟩;obtain⟨w1,hb1,rfl⟩:=hs' hd;have hkp:zn 0 W w1:=zn.of_below hb1;have c0:=hkp.cell a3;refine⟨?_,(a2.keep hkp).setCell c0 sp,⟨⟨x.toArray⟩,zN _ _ _ c0,by simpa using (hkp.frozen a3).trans a4,fun _=>?_⟩,⟨z,(a6.keep hkp).beside c0 sp om om _,fun e=>?_⟩,?_⟩
     ·have e2:((pre ++ [x]).drop 1).take j=(pre.drop 1).take j:=by
       rw[jC om,Qq (by rw[Za];omega)]
      rw[e2];exact(a1.keep hkp).setCell (a:=⟨gr,0,O⟩) c0 sp (Qr hbg) _
     ·rw[zk,zG om,hp];simp
     ·simp at e;omega
     ·rw[zA _ _ _ _ sp];exact hkp.cell a8
    ·have hjr1:j=n+1:=by
      have:=(zo.1 hfv).1;simp at this;omega
     subst hjr1;have e3:n+1-n=1:=om;rw[e3]at hfv;simp at hfv;subst hfv;refine⟨_,qb,rfl,ziA,fun pre x W hp hx hw hst=>?_⟩;obtain⟨a1,a2,⟨sr,a3,a4,a5⟩,⟨z,a6,a7⟩,a8⟩:=hst;refine(zgi x qb gr 1 z W (hw.cell (p:=(Xd qb 0 O)) (hnT hqb.1 hqb.2.1) hqb.2.2) a6 hqb.2.1 om).mono ?_;rintro e W' ⟨rfl,w1,y,ao,l,c,hb1,rfl,hv⟩;have hok:okR n (n+1+1) x=dOk x:=by unfold okR;rw[zO om,zO om,zO om]
     rw[hok];refine⟨rfl,((Xg (T:=fun k=>k=bf\/k=gr) hb1).setCell (p:=(Xd gr 1 O)) (Or.inr rfl) _).setCell (p:=⟨gr,1+1,O⟩) (Or.inr rfl) _,fun hd=>?_⟩;have hkp:zn 0 W w1:=zn.of_below hb1;obtain⟨x0,a0,l0,c0,k0,k1,_⟩:=a6.keep hkp;have k1':(w1.setCell (Xd gr 1 O) (G y)).cell? ⟨gr,1+1,O⟩=E (V a0 l0 c0):=by
      rw[zA _ _ _ _ sp];exact k1
     refine⟨?_,((a2.keep hkp).setCell k0 sp).setCell k1' sp,⟨sr,?_,by simpa using (hkp.frozen a3).trans a4,fun _=>?_⟩,⟨_,(a6.keep hkp).put (a2.keep hkp) (hv hd),fun _=>?_⟩,?_⟩
     ·have e2:((pre ++ [x]).drop 1).take n=(pre.drop 1).take n:=by
       rw[jC om,Qq (by rw[Za];omega)]
      rw[e2];exact((a1.keep hkp).setCell (a:=⟨gr,1,O⟩) k0 sp (Qr hbg) _).setCell (a:=⟨gr,1+1,O⟩) k1' sp (Qr hbg) _
     ·rw[zA _ _ _ _ sp,zA _ _ _ _ sp];exact hkp.cell a3
     ·have:=a5 om;rw[this,zk,zk,zS om]
     ·rw[zk,zG om,hp];simp
     ·rw[zA _ _ _ _ sp,zA _ _ _ _ sp];exact hkp.cell a8
def zdY (A:H)(bf gr n:Nat):Prop:=
 A.heap[bf]? =E (cl (madeCells #[G false,V O 0 0] (n*2)) 75 (0,0))/\A.heap[gr]? =E (cl #[gS ⟨#[]⟩,G false,V O 0 0,V (E (Xd bf 0 O)) n n] 169 (0,0))
theorem zdY.keep{a:H}(h:zdY A b gr n)(c:zn B A a):zdY a b gr n:=⟨(c.cells' h.1 rfl).trans h.1,(c.cells' h.2 rfl).trans h.2⟩
theorem zdY.wr{T:Nat->Prop}{b:H}(h:zdY A a gr n)(c:Wr T A b)(h1:¬T a)(h2:¬T gr):zdY b a gr n:=⟨c.some h.1 h1,c.some h.2 h2⟩
theorem zdY.start(h:zdY A a gr n):zey n a gr (List.replicate n 0) [] A:=by
 refine⟨?_,zE h.2 fun v a=>?_,⟨_,ze _ _ _ _ _ _ h.2,ZK _ _ _ _ _ h.2,fun e=>by simp at e⟩,⟨0,⟨false,O,0,0,ze _ _ _ _ _ _ h.2,ze _ _ _ _ _ _ h.2,⟨false,_,rfl,Xm _ _ _,by rw[Hid];rfl⟩,ZK _ _ _ _ _ h.2,ZK _ _ _ _ _ h.2⟩,fun e=>by simp at e⟩,ze _ _ _ _ _ _ h.2⟩
 ·have:=zkx (m:=n) h.1 (by rw[size_madeCells];omega) fun j b=>⟨by
   rw[zei om];have:(2*j)%(#[G false,V O 0 0]:Array Value).size=0:=sp;rw[this];rfl,by
   rw[zei om];have:(2*j+1)%(#[G false,V O 0 0]:Array Value).size=1:=by simp<;>omega
   rw[this];rfl⟩
  rw[show List.take n (List.drop 1 ([]:List (List UInt8)))= []by simp];exact this
 ·simp only[zI,zY,Zp]at a;intro n e;rcases a with rfl|rfl|rfl|rfl<;>cases e
def rowOf (n:Nat)(ws:List (List UInt8)):List Int×List UInt8×Int:=(((ws.drop 1).take n).map T.wZ,ws.getD (n+1) [],T.wZ (ws.getD (n+2) []))
theorem zqL(s:List UInt8)(hs:s.length<=2000){k b:H}{m d h D:Nat}{p:qF}{R S:Value}{a:List Nat}{B:Option Addr}{M:Nat}{y:Nat}(o:DQ w m p R S)(ad:a.length<=900)(ar:w.heap.size<gr)(aq:gr<d/\gr<h)(an:w.heap.size<d/\w.heap.size<h)(r:Pls w.heap.size w A d h JX a (fun j=>⟨w.heap.size,j*2,O⟩) [y,gr,w.heap.size] B M)(J:∀q∈a,gr<q)(a9:zdY A w.heap.size gr a.length)(I:zn w.heap.size A k)(au:gr<A.heap.size)(F:k.heap[D]? =E (.deferred (E [])))(al:gr<D)(a0:D≠d)(hT:TwoP w.heap.size w k b A.heap.size d h JX a (fun j=>⟨w.heap.size,j*2,O⟩) [y,gr,w.heap.size] (V B (a.length+1) M).ownBlock g cap (pn (E (Xd gr 0 O))) (pn (E (Xd gr 1 O)))):
 Calls pg 133 #[gS ⟨s.toArray⟩,V (E (Xd g 0 O)) (a.length+1+2) cap] b fun e A5=>
  e=Xa (G (zdX a.length (Zb s)))/\Below w.heap.size w A5/\A5.heap[D]? =E (.deferred (E []))/\gr<A5.heap.size/\
   (zdX a.length (Zb s)=true->∃v x i l c,A5.cell? (Xd gr 0 O)=E (gS v)/\A5.cell? (Xd gr 1 O)=E (G x)/\A5.cell? (Xd gr 2 O)=E (V i l c)/\A5.cell? (Xd gr 3 O)=E (V (E (Xd w.heap.size 0 O)) a.length a.length)/\
    RowIs A5 (Own m R S) ⟨v,x,(i,l,c),w.heap.size,a.length⟩ (rowOf a.length (Zb s))):=by
 obtain⟨N,Q,t3,_,t5,t6,t7,t8,_,P,aj,ak⟩:=hT;have C:zdY b w.heap.size gr a.length:=(a9.keep I).wr Q (fun e=>by
  rcases e with e|e
  ·omega
  ·exact r.sep _ e w.heap.size sp rfl) (fun e=>by
  rcases e with e|e
  ·omega
  ·exact r.sep _ e gr sp rfl)
 have ab:b.heap[D]? =E (.deferred (E [])):=Q.some F (fun e=>by
  rcases e with e|e
  ·exact a0 e
  ·have a6:=(r.keep I (zh _)).own;obtain⟨_,k1|⟨_,_,_,kv,_,L,_⟩⟩:=a6;·exact absurd k1.1 sp
   ·rw[kv]at e;simp[Value.ownBlock]at e;subst e;rw[F]at L;cases L)
 refine(zqK s hs h A.heap.size (A.heap.size+1) a.length a w.heap.size gr (List.replicate a.length 0) g cap b ⟨fun e=>P w.heap.size sp om,fun e=>P gr sp e⟩ rfl ad aj ak sp om t3 t5 ⟨om,om⟩
  (fun j q t=>⟨by have:=J q (zx t);omega,by have:=J q (zx t);omega,by rw[t6 j q t,Z5]⟩) ⟨om,om,t7⟩ ⟨om,om,t8⟩ C.start).mono ?_
 rintro e A5 ⟨rfl,u,ah⟩;have aa:=N.trans (u.below (by have:=N.size;omega) (fun av e=>by rcases e with e|e<;>omega));refine⟨rfl,aa,u.some ab (fun e=>by rcases e with e|e<;>omega),by have:=u.size;have:=Jw C.2;omega,fun K=>?_⟩;obtain⟨z,_,⟨v,T,_,U⟩,⟨_,⟨x,i,l,c,Y,Z,c3,_,_⟩,W⟩,X⟩:=ah K;have ae:=(jU K).1;have af:=U om;have ai:=W om;subst af ai;refine⟨_,x,i,l,c,T,Y,Z,X,fun e=>?_,?_,?_,rfl,c3⟩
 ·have h1:=o.box.2.2.2.2;rcases e with e|e|e
  ·have e:w.heap.size=m:=e;omega
  ·rcases o.cols with ⟨_,f⟩|⟨_,_,f,_,h3,_⟩
   ·rw[f]at e;cases e
   ·rw[f]at e;simp[Value.ownBlock]at e;have:=h3.lt;omega
  ·obtain⟨_,_,f,_⟩:=o.rows;have:=(f.lt _ e).2;simp at this
 ·simp[rowOf,ae]
 ·have hl:((Zb s).drop 1 |>.take a.length).length=a.length:=by
   rw[zX,Za];omega
  rw[zqF (by rw[zbz,hl])]at z;exact z
theorem zqM{A5 d:H}{D:Nat}{p:qF}{e b:Value}{rs:List Jl}{r:Jl}{row:List Int×List UInt8×Int}(h:DQ w a p e b)(j:Below w.heap.size w A5)(X:Obj)(o:A5.heap[D]? =E (.deferred (E [])))(f:w.heap.size<=D)(s:rs.length=p.rows.length)(x:∀(i:Nat) (r:Jl) (row:List Int×List UInt8×Int),rs[i]? =E r->p.rows[i]? =E row->RowIs A5 (Own a e b) r row)(v:RowIs A5 (Own a e b) r row)(u:d.ownsRow 0 169 4 (V (E (Xd g 0 O)) (rs.length+1) cap) (rs.length+1) (zaH rs++r.cells))(hg:(A5.alloc X).drew.grownBy d b.ownBlock)(l:b.ownBlock=E g\/g=(A5.alloc X).drew.heap.size)(t:qK d g):
 Wr (Own a e b) w (d.setCell (Xd a 1 O) (V (E (Xd g 0 O)) (rs.length+1) cap))/\DQ (d.setCell (Xd a 1 O) (V (E (Xd g 0 O)) (rs.length+1) cap)) a { p with rows:=p.rows ++ [row] } e (V (E (Xd g 0 O)) (rs.length+1) cap)/\
  (d.setCell (Xd a 1 O) (V (E (Xd g 0 O)) (rs.length+1) cap)).heap[D]? =E (.deferred (E []))/\(∀k,(V (E (Xd g 0 O)) (rs.length+1) cap).ownBlock=E k->b.ownBlock=E k\/w.heap.size<=k):=by
 have f:zn 0 A5 (A5.alloc X).drew:=(zn.alloc _ _ _).trans (zn.drew _ _);have m:=h.below j;have q:=m.keep f;have m:Below w.heap.size w (A5.alloc X).drew:=(j.alloc j.size X).trans (c:=World.drew _) ⟨rfl,rfl,rfl,zh _,fun _ _=>rfl⟩;have y:Wr (Own a e b) (A5.alloc X).drew d:=⟨hg.os,hg.tape,hg.output,hg.size,fun k f d=>hg.block k f (fun j=>d (Or.inr (Or.inr j.symm)))⟩;have j:=h.box.2.2.2.2;refine⟨Xq (T:=Own a e b) ((Xg m).trans y) (p:=(Xd a 1 O)) (Or.inl rfl) _,q.rows_grown s (fun i r row a b=>(x i r row a b).keep f) (v.keep f) u hg l t,?_,fun k b=>?_⟩
 ·rw[qC _ _ _ _ so];have a:=Jw o;rw[hg.block D so (fun d=>?_)];·exact(qH A5 X D a).trans o
  ·obtain⟨_,_,a,_⟩:=h.rows;have:=(a.lt D d.symm).2;omega
 ·have:k=g:=by simpa[Value.ownBlock]using b.symm
  subst this;rcases l with d|d
  ·exact Or.inl d
  ·right
   have:=m.size;omega
attribute [local go_sem] zD zW qJ
theorem zmE(s:List UInt8)(hs:s.length<=2000)(gp bc:Nat)(p:qF)(vR:Value)(w:H)(h:DQ w gp p (V (E (Xd bc 0 O)) p.n p.n) vR)(hn0:0<p.n)(hn:p.n<=4)(hrl6:p.rows.length<=6):
 Calls pg 73 #[pn (E (Xd gp 0 O)),gS ⟨s.toArray⟩] w fun e w'=>
  e=Xa (G (zdX p.n (Zb s)))/\Wr (Own gp (V (E (Xd bc 0 O)) p.n p.n) vR) w w'/\(zdX p.n (Zb s)=true->∃vR',DQ w' gp { p with rows:=p.rows ++ [rowOf p.n (Zb s)] } (V (E (Xd bc 0 O)) p.n p.n) vR'/\∀k,vR'.ownBlock=E k->vR.ownBlock=E k\/w.heap.size<=k):=by
 obtain⟨i0,hi,hz0,hz1,hz2⟩:=Zn Tryz.infoWhole;obtain⟨b0,b1,b2,b3,b4⟩:=h.box;obtain⟨w1,hrun,hown1,hg1⟩:=run_make_full (P:=pg) w 0 69 75 i0 _ 2 Tryz.underlying69 hi hz0 hz1 Xb Xb p.n (by rw[hz2];omega) (by unfold maxLen;omega) (qo _);have hb1:=(qf _ _).grown hg1 (zh _) (fun k h=>by simp at h);have hbf1:w1.heap[w.heap.size]? =E (cl (madeCells #[G false,V O 0 0] (p.n*2)) 75 (0,0)):=zje hown1;have hlt1:=Jw hbf1;obtain⟨gr,hgr⟩:∃gr,w1.heap.size=gr:=⟨_,rfl⟩;obtain⟨W2,hW2⟩:∃W2,w1.alloc (cl #[gS ⟨#[]⟩,G false,V O 0 0,V (E (Xd w.heap.size 0 O)) p.n p.n] 169)=W2:=⟨_,rfl⟩;have hb2:Below w.heap.size w W2:=by rw[<-hW2];exact hb1.alloc hb1.size _
 have hRB:zdY W2 w.heap.size gr p.n:=by
  rw[<-hW2];refine⟨(qH _ _ _ hlt1).trans hbf1,?_⟩;rw[<-hgr];exact qR w1 _
 have hs2:W2.heap.size=gr+1:=by rw[<-hW2,<-hgr];exact zL _ _
 have HPS:=zf (Pls.start w W2 hb2 JX (fun j=>⟨w.heap.size,j*2,O⟩));have HD:=zf h;have hgrl:w.heap.size<gr:=by omega
 have hn:=hn;clear h hown1 hg1 hbf1;generalize hnn:p.n=n at *;refine Q0 Tryz.func73 Tryz.ntmps73 (h:=?_);rw[hs2]at HPS;gi_wp2;refine(zq.2 (ze2 _ _)).mono ?_;rintro e w2 ⟨rfl,rfl⟩;have g0:(((W2.alloc (cl #[gS ⟨#[114,111,119]⟩] 9)).alloc (cl #[.func (.func 179) #[] #[pn (E ⟨gr+1,0,O⟩)]] 222)).alloc (cl #[V (E ⟨gr+1+1,0,O⟩) 1 1] 226)).cell? (Xd gr 3 O)=E (V (E (Xd w.heap.size 0 O)) n n):=
  ((zbt W2 _ _ _).cell (p:=(Xd gr 3 O)) (by simp;omega)).trans (ze _ _ _ _ _ _ hRB.2)
 gi_wp2;refine(zq.2 (zfL _ _ _ _ rfl _)).mono ?_;rintro e w2 ⟨rfl,rfl⟩;gi_wp2;refine zaW (zfp (E (Xd w.heap.size 0 O)) w.heap.size n n (gr+1+1+1+1) (by omega) (fun _=>rfl)) rfl (qW Tryz.func184 (by kernel_rfl) rfl) (fun v hv=>?_)
  (fun k M A=>k<=n/\∃qs ap kp,qs.length=k/\Pls w.heap.size w A (gr+1+1+1) (gr+1) JX qs (fun j=>⟨w.heap.size,j*2,O⟩) [gr+1+1+1+1,gr,w.heap.size] ap kp/\A.cell? ⟨gr+1+1+1+1,0,O⟩=E (V (E (Xd w.heap.size 0 O)) n n)/\zdY A w.heap.size gr n/\(∀q∈qs,gr<q)/\∀x,M x↔x=gr+1+1+1\/(V ap (k+1) kp).ownBlock=E x)
  (fun c k A=>False) (fun x=>x=gr+1+1+1\/(V (E ⟨gr+1+1,0,O⟩) (0+1) 1).ownBlock=E x) ?hI ?hIx ?hC ?h0 ?round ?done ?stop
 case hI=>
  rintro k M A B' ⟨h1,qs,ap,kp,h2,h3,h4,h6,h7,h5⟩ hk;exact⟨h1,qs,ap,kp,h2,h3.keep hk (by simp;omega),hk.cell h4,h6.keep hk,h7,h5⟩
 case hIx=>
  rintro c k A B' h _;exact h.elim
 case hC=>
  rintro k M A ⟨h1,qs,ap,kp,h2,h3,h4,h6,h7,h5⟩;refine⟨h4,fun x hx=>?_⟩;subst h2;rcases(h5 x).1 hx with e|e
  ·rw[e];exact h3.lt _ (by simp)
  ·exact(h3.own.lt x e).2
 case h0=>
  refine⟨qo _,[],E ⟨gr+1+1,0,O⟩,1,rfl,?_,?_,?_,fun q hq=>by simp at hq,fun _=>Qb⟩
  ·have h1:=HPS.out.avoid w.heap.size (by simp;omega) (fun g e=>by simp[Value.ownBlock]at e;omega);have h2:=h1.avoid gr (by simp;omega) (fun g e=>by simp[Value.ownBlock]at e;omega);have h3:=h2.alloc_avoid (cl #[V (E (Xd w.heap.size 0 O)) n n] 69);simp only[zL,hs2]at h3;exact h3
  ·have:=(ZU (((W2.alloc (cl #[gS ⟨#[114,111,119]⟩] 9)).alloc (cl #[.func (.func 179) #[] #[pn (E ⟨gr+1,0,O⟩)]] 222)).alloc (cl #[V (E ⟨gr+1+1,0,O⟩) 1 1] 226)) 69 (V (E (Xd w.heap.size 0 O)) n n)).cell;simp only[zL,hs2]at this;exact this
  ·exact hRB.keep (B:=0) ((((zn.alloc 0 W2 _).trans (zn.alloc 0 _ _)).trans (zn.alloc 0 _ _)).trans (zn.alloc 0 _ _))
 case round=>
  rintro l2 k v M A hv ⟨hkn0,qs,ap,kp,hqk,hP,hbt,hRA,hQG,hM⟩;have hkn:k<n:=by
   have:=(zo.1 hv).1;rwa [ji]at this
  rw[zcx hkn]at hv;injection hv with hv
  subst hv;subst hqk;unfold Zz;gi_wp2;refine⟨Xi _ _,fun A2 hk2=>?_⟩;have hP2:=hP.keep hk2 (by simp;omega);have hbt2:=hk2.cell hbt;have hRA2:=hRA.keep hk2;have hsA:=hk2.size;have c6:=hP2.box;have c7:=(hP2.alloc (cl #[pn (E ⟨w.heap.size,qs.length*2,O⟩)] 232)).box;have c8:=((hP2.alloc (cl #[pn (E ⟨w.heap.size,qs.length*2,O⟩)] 232)).alloc (cl #[.func (.func 182) #[] #[pn (E (Xd A2.heap.size 0 O))]] 222)).box;have HP6:=((hP2.alloc (cl #[pn (E ⟨w.heap.size,qs.length*2,O⟩)] 232)).alloc (cl #[.func (.func 182) #[] #[pn (E (Xd A2.heap.size 0 O))]] 222)).drew;have HB6:((A2.alloc (cl #[pn (E ⟨w.heap.size,qs.length*2,O⟩)] 232)).alloc (cl #[.func (.func 182) #[] #[pn (E (Xd A2.heap.size 0 O))]] 222)).drew.cell? ⟨A2.heap.size+1,0,O⟩=E (ZA A2.heap.size):=by
   have:=(ZU (A2.alloc (cl #[pn (E ⟨w.heap.size,qs.length*2,O⟩)] 232)) 222 (ZA A2.heap.size)).cell;rwa [zL]at this
  have HQ6:((A2.alloc (cl #[pn (E ⟨w.heap.size,qs.length*2,O⟩)] 232)).alloc (cl #[.func (.func 182) #[] #[pn (E (Xd A2.heap.size 0 O))]] 222)).drew.cell? (Xd A2.heap.size 0 O)=E (pn (E ⟨w.heap.size,qs.length*2,O⟩)):=
   ((ZU A2 232 (pn (E ⟨w.heap.size,qs.length*2,O⟩))).alloc _).cell
  have HGP:A2.heap.size≠gr+1+1+1:=by have:=hP2.lt (gr+1+1+1) (by simp);omega
  have HWB:=hP2.bel.size;have HQS:∀g,(V ap (qs.length+1) kp).ownBlock=E g->g≠A2.heap.size:=fun g e=>by have:=(hP2.own.lt g e).2;omega
  have hql:qs.length<=900:=by omega
  have HQG2:∀q∈qs ++ [A2.heap.size],gr<q:=by
   intro q hq;rcases zU.1 hq with e|e
   ·exact hQG q e
   ·rw[qg.1 e];exact hP2.lt gr (by simp)
  have HE6:Wr M A2 ((A2.alloc (cl #[pn (E ⟨w.heap.size,qs.length*2,O⟩)] 232)).alloc (cl #[.func (.func 182) #[] #[pn (E (Xd A2.heap.size 0 O))]] 222)).drew:=(Xg (zaA A2 _ _)).trans (Xn _ _);have HT6:((A2.alloc (cl #[pn (E ⟨w.heap.size,qs.length*2,O⟩)] 232)).alloc (cl #[.func (.func 182) #[] #[pn (E (Xd A2.heap.size 0 O))]] 222)).drew.cell? ⟨gr+1+1+1+1,0,O⟩=E (V (E (Xd w.heap.size 0 O)) n n):=((zn.alloc 0 A2 _).trans (zn.alloc 0 _ _)).cell hbt2;have HR6:zdY ((A2.alloc (cl #[pn (E ⟨w.heap.size,qs.length*2,O⟩)] 232)).alloc (cl #[.func (.func 182) #[] #[pn (E (Xd A2.heap.size 0 O))]] 222)).drew w.heap.size gr n:=hRA2.keep (((zn.alloc 0 A2 _).trans (zn.alloc 0 _ _)).trans (zn.drew 0 _));have HS6:A2.heap.size<=((A2.alloc (cl #[pn (E ⟨w.heap.size,qs.length*2,O⟩)] 232)).alloc (cl #[.func (.func 182) #[] #[pn (E (Xd A2.heap.size 0 O))]] 222)).drew.heap.size:=by simp;omega
  obtain⟨A6,hA6⟩:∃A6,((A2.alloc (cl #[pn (E ⟨w.heap.size,qs.length*2,O⟩)] 232)).alloc (cl #[.func (.func 182) #[] #[pn (E (Xd A2.heap.size 0 O))]] 222)).drew=A6:=⟨_,rfl⟩;have HFIN:Hid (∀(g cap:Nat) (A4:H),Pls w.heap.size w (A4.setCell ⟨gr+1+1+1,0,O⟩ (V (E (Xd g 0 O)) (qs.length+1+1) cap)) (gr+1+1+1) (gr+1) JX (qs ++ [A2.heap.size]) (fun j=>⟨w.heap.size,j*2,O⟩) [gr+1+1+1+1,gr,w.heap.size] (E (Xd g 0 O)) cap->
   Wr (fun x=>x=gr+1+1+1\/(V ap (qs.length+1) kp).ownBlock=E x) A6 (A4.setCell ⟨gr+1+1+1,0,O⟩ (V (E (Xd g 0 O)) (qs.length+1+1) cap))->((V ap (qs.length+1) kp).ownBlock=E g\/A6.heap.size<=g)->
   Wr M A2 (A4.setCell ⟨gr+1+1+1,0,O⟩ (V (E (Xd g 0 O)) (qs.length+1+1) cap))/\∃M':Nat->Prop,(qs.length+1<=n/\∃qs' ap' kp',qs'.length=qs.length+1/\Pls w.heap.size w (A4.setCell ⟨gr+1+1+1,0,O⟩ (V (E (Xd g 0 O)) (qs.length+1+1) cap)) (gr+1+1+1) (gr+1) JX qs' (fun j=>⟨w.heap.size,j*2,O⟩) [gr+1+1+1+1,gr,w.heap.size] ap' kp'/\
    (A4.setCell ⟨gr+1+1+1,0,O⟩ (V (E (Xd g 0 O)) (qs.length+1+1) cap)).cell? ⟨gr+1+1+1+1,0,O⟩=E (V (E (Xd w.heap.size 0 O)) n n)/\zdY (A4.setCell ⟨gr+1+1+1,0,O⟩ (V (E (Xd g 0 O)) (qs.length+1+1) cap)) w.heap.size gr n/\(∀q∈qs',gr<q)/\∀x,M' x↔x=gr+1+1+1\/(V ap' (qs.length+1+1) kp').ownBlock=E x)/\∀x,M' x->M x\/A.heap.size<=x):=by
   intro g cap A4 hP4 hw4 hat4;rw[hA6]at HE6 HT6 HS6 HR6;refine⟨HE6.trans (hw4.mono fun x hx=>(hM x).2 hx),fun x=>x=gr+1+1+1\/(V (E (Xd g 0 O)) (qs.length+1+1) cap).ownBlock=E x,⟨by omega,_,_,_,by simp,hP4,?_,?_,HQG2,fun _=>Qb⟩,fun x hx=>?_⟩
   ·refine hw4.cell (p:=⟨gr+1+1+1+1,0,O⟩) (fun e=>?_) HT6;rcases e with e|e
    ·simp at e
    ·exact hP2.sep _ e (gr+1+1+1+1) (by simp) rfl
   ·refine HR6.wr hw4 (fun e=>?_) (fun e=>?_)
    ·rcases e with e|e
     ·omega
     ·exact hP2.sep _ e w.heap.size (by simp) rfl
    ·rcases e with e|e
     ·omega
     ·exact hP2.sep _ e gr (by simp) rfl
   ·rcases hx with e|e
    ·exact .inl ((hM x).2 (.inl e))
    ·have hxg:x=g:=by simpa[Value.ownBlock]using e.symm
     subst hxg;rcases hat4 with e2|e2
     ·exact .inl ((hM _).2 (.inr e2))
     ·exact .inr (by omega)
  rw[<-hA6]at HFIN;clear hA6 HE6 HT6 HS6 HR6 hbt2 hbt hM hP hP2 HD HPS hRA hRA2 hRB g0;gi_wp2;refine jX hm ?_;try(change wpAnyIn _ _ _ _ _ _ _ _ _ (World.drew _))
  refine rj2 0 1 (h:=fun K hK=>?_) (h1:=fun K hK=>?_);go_simp;refine hK _ _ ?_;clear hK K;refine rj1 1 (h:=fun K hK=>?_);go_simp;refine hK _ _ ?_;clear hK K;refine rj1 2 (h:=fun K hK=>?_);go_simp;refine(Zq l2 (zq.2 (jn _ _))).mono ?_;rintro e A3 ⟨rfl,rfl⟩;simp only[];refine hK _ _ ?_;clear hK K;refine rj1 3 (h:=fun K hK=>?_);go_simp;refine hK _ _ ?_;clear hK K;refine rj1 4 (h:=fun K hK=>?_);refine JT _ rfl (.tmp 21) (.tmp 24) rfl HP6 hql rfl rfl HB6 HQ6 HWB HGP HQS ?_;intro g cap A4 hP4 hw4 hat4 d1 d2;refine hK _ _ ?_;clear hK K;refine rj1 5 (h:=fun K hK=>?_);go_simp;refine hK _ _ ?_;clear hK K;refine Q4 (by kernel_rfl) ?_ _;rotate_left;go_simp;refine hK _ _ ?_;clear hK K;refine rj2 0 2 (h:=fun K hK=>?_) (h1:=fun K hK=>?_);go_simp;refine hK _ _ ?_;clear hK K;refine rj1 2 (h:=fun K hK=>?_);go_simp;refine(Zq l2 (zq.2 (jn _ _))).mono ?_;rintro e A3 ⟨rfl,rfl⟩;simp only[];refine hK _ _ ?_;clear hK K;refine rj1 3 (h:=fun K hK=>?_);go_simp;refine hK _ _ ?_;clear hK K;refine rj1 4 (h:=fun K hK=>?_);refine JT _ rfl (.tmp 21) (.tmp 24) rfl HP6 hql rfl rfl HB6 HQ6 HWB HGP HQS ?_;intro g cap A4 hP4 hw4 hat4 d1 d2;refine hK _ _ ?_;clear hK K;refine rj1 5 (h:=fun K hK=>?_);go_simp;refine hK _ _ ?_;clear hK K;refine Q4 (by kernel_rfl) ?_ _;rotate_left;go_simp;refine(Zq l2 (zq.2 (jn _ _))).mono ?_;rintro e A3 ⟨rfl,rfl⟩;simp only[];refine hK _ _ ?_;clear hK K;refine rj2 0 3 (h:=fun K hK=>?_) (h1:=fun K hK=>?_);go_simp;refine hK _ _ ?_;clear hK K;refine rj1 3 (h:=fun K hK=>?_);go_simp;refine hK _ _ ?_;clear hK K;refine rj1 4 (h:=fun K hK=>?_);refine JT _ rfl (.tmp 21) (.tmp 24) rfl HP6 hql rfl rfl HB6 HQ6 HWB HGP HQS ?_;intro g cap A4 hP4 hw4 hat4 d1 d2;refine hK _ _ ?_;clear hK K;refine rj1 5 (h:=fun K hK=>?_);go_simp;refine hK _ _ ?_;clear hK K;refine Q4 (by kernel_rfl) ?_ _;rotate_left;go_simp;refine hK _ _ ?_;clear hK K;refine rj1 0 (h:=fun K hK=>?_);go_simp;refine hK _ _ ?_;clear hK K;refine rj1 4 (h:=fun K hK=>?_);refine JT _ rfl (.tmp 21) (.tmp 24) rfl HP6 hql rfl rfl HB6 HQ6 HWB HGP HQS ?_;intro g cap A4 hP4 hw4 hat4 d1 d2;refine hK _ _ ?_;clear hK K;refine rj1 5 (h:=fun K hK=>?_);go_simp;refine hK _ _ ?_;clear hK K;refine Q4 (by kernel_rfl) ?_ _;rotate_left;all_goals
   gi_wp2;exact HFIN.out g cap A4 hP4 hw4 hat4
 case done=>
  rintro D M A hD ⟨h1,qs,ap,kp,hqk,hP,hbt,hRA,hQG,hM⟩ hd;rw[ji]at hqk;subst hqk;clear hM hbt HPS g0 hRB;obtain⟨ip,hip,hp0,hp1,hp2⟩:=Zn Tryz.infoPlace;have k6:=hP.box;have k7:=(hP.alloc (cl #[pn (E (Xd gr 0 O))] 237)).box;have k8:=((hP.alloc (cl #[pn (E (Xd gr 0 O))] 237)).alloc (cl #[pn (E (Xd gr 1 O))] 232)).box;have k9:=(((hP.alloc (cl #[pn (E (Xd gr 0 O))] 237)).alloc (cl #[pn (E (Xd gr 1 O))] 232)).alloc (cl #[jP A.heap.size,ZA (A.heap.size+1)] 222)).box;have HO6:=((((hP.alloc (cl #[pn (E (Xd gr 0 O))] 237)).alloc (cl #[pn (E (Xd gr 1 O))] 232)).alloc (cl #[jP A.heap.size,ZA (A.heap.size+1)] 222)).drew).own;have HK6:zn w.heap.size A (((A.alloc (cl #[pn (E (Xd gr 0 O))] 237)).alloc (cl #[pn (E (Xd gr 1 O))] 232)).alloc (cl #[jP A.heap.size,ZA (A.heap.size+1)] 222)).drew:=(((zn.alloc _ _ _).trans (zn.alloc _ _ _)).trans (zn.alloc _ _ _)).trans (zn.drew _ _);have HS6:(((A.alloc (cl #[pn (E (Xd gr 0 O))] 237)).alloc (cl #[pn (E (Xd gr 1 O))] 232)).alloc (cl #[jP A.heap.size,ZA (A.heap.size+1)] 222)).drew.heap.size=A.heap.size+1+1+1:=by simp
  obtain⟨t0,t1,t2,_⟩:=zeK A (cl #[pn (E (Xd gr 0 O))] 237) (cl #[pn (E (Xd gr 1 O))] 232) (cl #[jP A.heap.size,ZA (A.heap.size+1)] 222) (cl #[] 222);rw[qH _ _ _ (by simp<;>omega)]at t0 t1 t2;have HC1:(((A.alloc (cl #[pn (E (Xd gr 0 O))] 237)).alloc (cl #[pn (E (Xd gr 1 O))] 232)).alloc (cl #[jP A.heap.size,ZA (A.heap.size+1)] 222)).drew.cell? (Xd A.heap.size 0 O)=E (pn (E (Xd gr 0 O))):=ze _ _ _ _ _ _ t0;have HC2:(((A.alloc (cl #[pn (E (Xd gr 0 O))] 237)).alloc (cl #[pn (E (Xd gr 1 O))] 232)).alloc (cl #[jP A.heap.size,ZA (A.heap.size+1)] 222)).drew.cell? ⟨A.heap.size+1,0,O⟩=E (pn (E (Xd gr 1 O))):=ze _ _ _ _ _ _ t1;have HN6:∀(j:Nat) (u:Value),[jP A.heap.size,ZA (A.heap.size+1)][j]? =E u->(((A.alloc (cl #[pn (E (Xd gr 0 O))] 237)).alloc (cl #[pn (E (Xd gr 1 O))] 232)).alloc (cl #[jP A.heap.size,ZA (A.heap.size+1)] 222)).drew.cell? ((⟨A.heap.size+1+1,0,O⟩:Addr).add j)=E u:=
   World.news_of_block (cs:=#[jP A.heap.size,ZA (A.heap.size+1)]) t2
  have H16:∀u∈ [jP A.heap.size,ZA (A.heap.size+1)],u.oneCell'=true:=by
   intro u hu;simp only[zI,zY,Zp]at hu;rcases hu with rfl|rfl<;>rfl
  have HWA:=hP.bel.size;have HAL:=hP.lt gr (by simp);have hDg:gr+1+1+1+1<D:=by simp[hs2]at hD;omega
  have HD3:(((A.alloc (cl #[pn (E (Xd gr 0 O))] 237)).alloc (cl #[pn (E (Xd gr 1 O))] 232)).alloc (cl #[jP A.heap.size,ZA (A.heap.size+1)] 222)).drew.heap[D]? =E (.deferred (E [])):=((zbt A _ _ _).block D (Jw hd)).trans hd;obtain⟨ir,hir,hr0,hr1,hr2⟩:=Zn Tryz.infoRow;clear t0 t1 t2;simp only[jP,ZA]at k9;gi_wp2;refine zcM ?_;refine jX hm ?_;try(change wpAnyIn _ _ _ _ _ _ _ _ _ (World.drew _))
  refine wpAnyIn_take (i:=1) (v:=pn (E (Xd gr 0 O))) rfl rfl (by kernel_rfl) (by kernel_rfl) (by kernel_rfl) (fun _ _ _ h=>h) ⟨Or.inl ⟨by rfl,?_⟩,fun _=>rfl⟩ ?_
  ·intro w;go_simp
  refine wpAnyIn_take (i:=3) (v:=pn (E (Xd gr 1 O))) rfl rfl (by kernel_rfl) (by kernel_rfl) (by kernel_rfl) (fun _ _ _ h=>h) ⟨Or.inl ⟨by rfl,?_⟩,fun _=>rfl⟩ ?_
  ·intro w;go_simp
  refine rj2 0 2 (h:=fun K hK=>?_) (h1:=fun K hK=>?_);go_simp;refine hK _ _ ?_;clear hK K;refine rj1 2 (h:=fun K hK=>?_);go_simp;refine(zq.2 (zfK _ _)).mono ?_;rintro e A3 ⟨rfl,rfl⟩;simp only[];refine hK _ _ ?_;clear hK K;refine rj1 4 (h:=fun K hK=>?_);go_simp;refine(zq.2 (jn _ _)).mono ?_;rintro e A3 ⟨rfl,rfl⟩;simp only[];refine hK _ _ ?_;clear hK K;refine rj1 5 (h:=fun K hK=>?_);go_simp;refine hK _ _ ?_;clear hK K;refine rj1 6 (h:=fun K hK=>?_);refine zag _ rfl (.tmp 26) (.tmp 31) 226 rfl w.heap.size 222 ip .nilFunc 1 8 Tryz.underlying226 hip hp0 hp1 hp2 rfl (by decide) _ _ _ rfl HO6 ⟨A.heap.size+1+1,0,O⟩ 2 2 [jP A.heap.size,ZA (A.heap.size+1)] rfl rfl HN6 H16 (by omega) (by unfold maxLen;omega) (by omega) (by simp;omega) _ rfl ?_;intro g cap A4 hown4 hg4 hat4 hlt4;obtain⟨d1,d2,HX⟩:=ze5 hP HK6 HS6 HC1 HC2 hown4 hg4 hat4;refine hK _ _ ?_;clear hK K hown4 hg4 hat4;refine rj1 7 (h:=fun K hK=>?_);go_simp;refine hK _ _ ?_;clear hK K;refine Q4 (by kernel_rfl) ?_ _;rotate_left;go_simp;refine(zq.2 (zfK _ _)).mono ?_;rintro e A3 ⟨rfl,rfl⟩;simp only[];refine hK _ _ ?_;clear hK K;refine rj2 0 4 (h:=fun K hK=>?_) (h1:=fun K hK=>?_);go_simp;refine hK _ _ ?_;clear hK K;refine rj1 4 (h:=fun K hK=>?_);go_simp;refine(zq.2 (jn _ _)).mono ?_;rintro e A3 ⟨rfl,rfl⟩;simp only[];refine hK _ _ ?_;clear hK K;refine rj1 5 (h:=fun K hK=>?_);go_simp;refine hK _ _ ?_;clear hK K;refine rj1 6 (h:=fun K hK=>?_);refine zag _ rfl (.tmp 26) (.tmp 31) 226 rfl w.heap.size 222 ip .nilFunc 1 8 Tryz.underlying226 hip hp0 hp1 hp2 rfl (by decide) _ _ _ rfl HO6 ⟨A.heap.size+1+1,0,O⟩ 2 2 [jP A.heap.size,ZA (A.heap.size+1)] rfl rfl HN6 H16 (by omega) (by unfold maxLen;omega) (by omega) (by simp;omega) _ rfl ?_;intro g cap A4 hown4 hg4 hat4 hlt4;obtain⟨d1,d2,HX⟩:=ze5 hP HK6 HS6 HC1 HC2 hown4 hg4 hat4;refine hK _ _ ?_;clear hK K hown4 hg4 hat4;refine rj1 7 (h:=fun K hK=>?_);go_simp;refine hK _ _ ?_;clear hK K;refine Q4 (by kernel_rfl) ?_ _;rotate_left;go_simp;refine(zq.2 (jn _ _)).mono ?_;rintro e A3 ⟨rfl,rfl⟩;simp only[];refine hK _ _ ?_;clear hK K;refine rj2 0 5 (h:=fun K hK=>?_) (h1:=fun K hK=>?_);go_simp;refine hK _ _ ?_;clear hK K;refine rj1 5 (h:=fun K hK=>?_);go_simp;refine hK _ _ ?_;clear hK K;refine rj1 6 (h:=fun K hK=>?_);refine zag _ rfl (.tmp 26) (.tmp 31) 226 rfl w.heap.size 222 ip .nilFunc 1 8 Tryz.underlying226 hip hp0 hp1 hp2 rfl (by decide) _ _ _ rfl HO6 ⟨A.heap.size+1+1,0,O⟩ 2 2 [jP A.heap.size,ZA (A.heap.size+1)] rfl rfl HN6 H16 (by omega) (by unfold maxLen;omega) (by omega) (by simp;omega) _ rfl ?_;intro g cap A4 hown4 hg4 hat4 hlt4;obtain⟨d1,d2,HX⟩:=ze5 hP HK6 HS6 HC1 HC2 hown4 hg4 hat4;refine hK _ _ ?_;clear hK K hown4 hg4 hat4;refine rj1 7 (h:=fun K hK=>?_);go_simp;refine hK _ _ ?_;clear hK K;refine Q4 (by kernel_rfl) ?_ _;rotate_left;go_simp;refine hK _ _ ?_;clear hK K;refine rj1 0 (h:=fun K hK=>?_);go_simp;refine hK _ _ ?_;clear hK K;refine rj1 6 (h:=fun K hK=>?_);refine zag _ rfl (.tmp 26) (.tmp 31) 226 rfl w.heap.size 222 ip .nilFunc 1 8 Tryz.underlying226 hip hp0 hp1 hp2 rfl (by decide) _ _ _ rfl HO6 ⟨A.heap.size+1+1,0,O⟩ 2 2 [jP A.heap.size,ZA (A.heap.size+1)] rfl rfl HN6 H16 (by omega) (by unfold maxLen;omega) (by omega) (by simp;omega) _ rfl ?_
  intro g cap A4 hown4 hg4 hat4 hlt4;obtain⟨d1,d2,HX⟩:=ze5 hP HK6 HS6 HC1 HC2 hown4 hg4 hat4;refine hK _ _ ?_;clear hK K hown4 hg4 hat4;refine rj1 7 (h:=fun K hK=>?_);go_simp;refine hK _ _ ?_;clear hK K;refine Q4 (by kernel_rfl) ?_ _;rotate_left;all_goals
   have x3:=HX.out.2.2.2.1;have HR:=zf (zqL s hs (D:=D) HD.out (by omega) hgrl ⟨by omega,by omega⟩ ⟨by omega,by omega⟩ hP hQG hRA HK6 HAL HD3 (by omega) (by omega) HX.out);clear HX d1 d2 hlt4 HD3 HC1 HC2 HN6 HO6 HK6 HS6 k6 k7 k8 k9 hP hRA;simp only[];gi_wp2;refine(zq.2 HR.out).mono ?_;rintro e A5 ⟨rfl,hb5,hd5,hg5,hrow5⟩;clear HR x3;by_cases hr:zdX qs.length (Zb s)=true
   ·obtain⟨sr,x,ao,l,c,r0,r1,r2,r3,hri⟩:=hrow5 hr;clear hrow5;rw[hr];have HRI:=zf hri;clear hri;have hD5:=HD.out.below hb5;obtain⟨e0,e1,e2,e3,e4⟩:=hD5.box;obtain⟨rs,hrl,hrown,hrs⟩:=hD5.rows;have HRS:=zf hrs;have HRL:=zf hrl;have hrs6:rs.length<=6:=by omega
    clear hrl;have HNR:=zf (fun g hg=>(hD5.nodR g hg).1);have hne:=fun g hg=>(hD5.nodR g hg).2.1
    clear hrs hD5;have HOW:=hrown.alloc (cl #[gS sr,G x,V ao l c,V (E (Xd w.heap.size 0 O)) qs.length qs.length] 169);have HNW:∀(j:Nat) (u:Value),(Jl.cells ⟨sr,x,(ao,l,c),w.heap.size,qs.length⟩)[j]? =E u->(A5.alloc (cl #[gS sr,G x,V ao l c,V (E (Xd w.heap.size 0 O)) qs.length qs.length] 169)).drew.cell? ((⟨A5.heap.size,0,O⟩:Addr).add j)=E u:=
     World.news_of_block (cs:=#[gS sr,G x,V ao l c,V (E (Xd w.heap.size 0 O)) qs.length qs.length]) (qR A5 _)
    have HO1:∀u∈Jl.cells ⟨sr,x,(ao,l,c),w.heap.size,qs.length⟩,u.oneCell'=true:=by
     intro u hu;simp only[Jl.cells,zI,zY,Zp]at hu;rcases hu with rfl|rfl|rfl|rfl<;>rfl
    have HNN:∀u∈Jl.cells ⟨sr,x,(ao,l,c),w.heap.size,qs.length⟩,ZM u:=by
     intro u hu;simp only[Jl.cells,zI,zY,Zp]at hu;intro n e;rcases hu with rfl|rfl|rfl|rfl<;>cases e
    have HZN:∀u∈(Value.agg #[gS ⟨#[]⟩,G false,V O 0 0,V O 0 0]).cells.toList,ZM u:=by
     intro u hu;have hu2:u∈ [gS ⟨#[]⟩,G false,V O 0 0,V O 0 0]:=hu;simp only[zI,zY,Zp]at hu2;intro n e;rcases hu2 with rfl|rfl|rfl|rfl<;>cases e
    have HVN:∀g,vR.ownBlock=E g->qK (A5.alloc (cl #[gS sr,G x,V ao l c,V (E (Xd w.heap.size 0 O)) qs.length qs.length] 169)).drew g:=fun g hg=>(HNR.out g hg).keep (B:=0) ((zn.alloc _ _ _).trans (zn.drew _ _))
    have HGX:E gp≠vR.ownBlock:=fun e=>hne gp e.symm rfl
    have e1x:(A5.alloc (cl #[gS sr,G x,V ao l c,V (E (Xd w.heap.size 0 O)) qs.length qs.length] 169)).drew.cell? (Xd gp 1 O)=E vR:=(zn.alloc 0 A5 _).cell e1;have e3x:(A5.alloc (cl #[gS sr,G x,V ao l c,V (E (Xd w.heap.size 0 O)) qs.length qs.length] 169)).drew.frozen? (Xd gp 1 O)=false:=((zn.alloc 0 A5 _).frozen e1).trans e3;have hgl5:gp<(A5.alloc (cl #[gS sr,G x,V ao l c,V (E (Xd w.heap.size 0 O)) qs.length qs.length] 169)).drew.heap.size:=by simp;omega
    gi_wp2;refine zcM ?_;refine wpIn_wide.2 ?_;go_region_law (refine QM _ rfl (.tmp 41) (.tmp 43) 57 rfl 0 169 ir _ 4 72 Tryz.underlying57 hir hr0 hr1 hr2 rfl (by decide) vR rs.length (zaH rs) rfl HOW ⟨A5.heap.size,0,O⟩ 1 1 (Jl.cells ⟨sr,x,(ao,l,c),w.heap.size,qs.length⟩) rfl rfl HNW HO1 (by omega) (by unfold maxLen;omega) (by omega) (qo _) _ rfl HZN HNN HVN ?_;intro g6 cap6 A6 hown6 hg6 hat6 hlt6 hnd6;have q1:=(hg6.cell_far ⟨gp,1,O⟩ hgl5 HGX).trans e1x;have q3:=(hg6.frozen_far ⟨gp,1,O⟩ hgl5 HGX).trans e3x)
    all_goals simp only[]
    all_goals gi_wp2
    all_goals obtain⟨z1,z2,z3,z4⟩:=zqM HD.out hb5 _ hd5 (by omega) HRL.out HRS.out HRI.out hown6 hg6 hat6 hnd6
    all_goals refine qh z3 ?_
    all_goals exact⟨G true,by simp[results,Tryz.results73,go_sem],by rw[hr],z1.keep (zn.putObj (.deferred O) (by omega) z3 rfl),fun _=>⟨_,by have z5:=z2.keep (B:=w.heap.size) (zn.putObj (.deferred O) (by omega) z3 rfl);rw[hnn]at z5;exact z5,z4⟩⟩
   ·have hrf:zdX qs.length (Zb s)=false:=by simpa using hr
    rw[hrf];clear hrow5;gi_wp2;refine qh hd5 ?_;have hkp:zn w.heap.size A5 (A5.putObj D (.deferred O)):=zn.putObj (.deferred O) (by omega) hd5 rfl;exact⟨G false,by simp[results,Tryz.results73,go_sem],by rw[hrf],(Xg hb5).keep hkp,fun h=>by rw[hrf]at h;cases h⟩
 case stop=>
  rintro D c k A hD hk h hd;exact h.elim
 ·obtain⟨i,hi,rfl⟩:=qP.1 hv;rfl
