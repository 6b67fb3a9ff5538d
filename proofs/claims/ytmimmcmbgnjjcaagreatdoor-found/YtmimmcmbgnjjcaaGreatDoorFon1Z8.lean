import Derived.Test.YtmimmcmbgnjjcaaGreatDoorFon1Z6
import Derived.Test.YtmimmcmbgnjjcaaGreatDoorFon1Z7
open Option renaming none->O,some->E
open Go.Value renaming slice->V,bool->G,string->gS,pointer->pn,tuple->tp,int->it,agg->ag
open Go.Obj renaming cells->cl
open Go renaming World->H
open Go.Proofs.Tryz renaming prog->pg
open Go.Proofs.Tryz
open Go.Ending renaming returned->Xa
open Go.IntKind renaming i64->Xb
open Go.Addr renaming mk->Xd
set_option linter.unusedSimpArgs false
set_option linter.unusedVariables false
set_option maxHeartbeats 2000000
set_option maxRecDepth 100000
namespace Go.Proofs.YtmimmcmbgnjjcaaGreatDoor
section
open Go.RowKit
variable {w:H}
theorem znC(s:List UInt8)(w:H)(hs:s.length<=1000000):
 Calls pg 67 #[gS ⟨s.toArray⟩,it Xb 40] w fun e w'=>∃b a l c,e=Xa (tp #[ag #[G b,V a l c],G (dOk s)])/\Below w.heap.size w w'/\(dOk s=true->zy w' (ag #[G b,V a l c]) (T.wZ s)):=by
 by_cases h:dOk s=true
 ·obtain⟨d,f,g⟩:=zoy h;refine(zj1 ⟨s.toArray⟩ 40 w om d f g).mono ?_;rintro e w' ⟨_,rfl,d,f⟩;obtain⟨b,a,l,c,rfl,_,_⟩:=d.parts;exact⟨b,a,l,c,by rw[h],f,fun _=>d⟩
 ·have d:dOk s=false:=by simpa using h
  refine(zk4 ⟨s.toArray⟩ 40 w om (by simp[ByteArray.size];omega) d).mono ?_;rintro e w' ⟨b,a,l,c,rfl,f⟩;exact⟨b,a,l,c,by rw[d],f,fun e=>by rw[d]at e;cases e⟩
theorem zgi(s:List UInt8)(q b o:Nat)(z:Int)(w:H)(h:w.cell? (Xd q 0 O)=E (pn (E (Xd b o O))))(a:Q3 w b o z)(f:q≠b)(hs:s.length<=1000000):
 Calls pg 290 #[gS ⟨s.toArray⟩,pn (E (Xd q 0 O))] w fun e w'=>e=Xa (G (dOk s))/\
  ∃w1 x d l c,Below w.heap.size w w1/\w'=(w1.setCell (Xd b o O) (G x)).setCell ⟨b,o+1,O⟩ (V d l c)/\(dOk s=true->zy w1 (ag #[G x,V d l c]) (T.wZ s)):=by
 have m:q<w.heap.size:=zw h;have f:=a.lt;obtain⟨_,_,_,_,r,t,_,j,k⟩:=a;have a:=zf (fun W=>znC s W hs);have i:Hid (∃g,dOk s=g):=⟨_,rfl⟩;obtain⟨g,g⟩:=i.out;rw[g]at a⊢;go_enter func290,ntmps290
 go_wp2;go_region_held (fun W=>W.cell? (Xd q 0 O)=E (pn (E (Xd b o O)))) (first|assumption|((rw[far,far]<;>first|assumption|omega))|go_keep)
  (first|(go_at_call 67;refine(a.out _).mono ?_;rintro e w1 ⟨x,d,l,c,rfl,a,g⟩;have i:=(a.cell (p:=(Xd q 0 O)) m).trans h;have i:=(a.cell (p:=(Xd b o O)) f).trans r;have i:=(a.cell (p:=⟨b,o+1,O⟩) f).trans t;have i:=(a.frozen (p:=(Xd b o O)) f).trans j;have i:=(a.frozen (p:=⟨b,o+1,O⟩) f).trans k))
 go_wp2;go_ret;exact⟨rfl,w1,x,d,l,c,⟨a.os,a.tape,a.output,a.size,a.block⟩,rfl,g⟩
attribute [local go_sem] zD zW qJ
theorem Wr.keep{T:Nat->Prop}{W b:H}(h:Wr T w W)(a:zn w.heap.size W b):Wr T w b:=
 ⟨a.os.trans h.os,a.tape.trans h.tape,a.output.trans h.output,zF h.size a.size,fun k b c=>by
  have d:=h.block k b c;have c:=zK b h.size;rw[<-d,qD c];exact a.block k _ (qD c) (.inl b)⟩
theorem Wr.frozen{T:Nat->Prop}{w':H}(h:Wr T w w'){p:Addr}(b:¬T p.block)(a:p.block<w.heap.size):w'.frozen? p=w.frozen? p:=
 qw (w:=w) (h.block p.block a b)
theorem Wr.new{T:Nat->Prop}{w':H}(h:Wr T w w'){p:Addr}(a:w.heap.size<=p.block)(v:Value):Wr T w (w'.setCell p v):=
 ⟨h.os,h.tape,h.output,by simpa using h.size,fun k a b=>(qC _ _ _ _ om).trans (h.block k a b)⟩
def zdS (m:Nat)(ok:Nat->List UInt8->Bool)(ws:List (List UInt8)):Bool:=decide (ws.length=m/\∀j,j<m->ok j (ws.getD j [])=true)
theorem zqC{s:List UInt8}(k:Nat)(a:k<(Zb s).length):((Zb s).getD k []).length<=s.length:=by
 rw[zk,zg a];exact(znt _ s).2 _ (zJ a)
theorem ziB(s:List UInt8)(hs:s.length<=2000)(L:List Value)(ok:Nat->List UInt8->Bool)(T:Nat->Prop)(C:List (List UInt8)->H->Prop)(g cap:Nat)(w:H)(hT:∀x,T x->x<w.heap.size)(hg:¬T g)(ar:L.length<=1000)(ak:L.length<=cap)(al:cap<=9223372036854775807)(aw:∀i fv,L[i]? =E fv->w.cell? (Xd g i O)=E fv)(hK:∀pre A B,C pre A->zn w.heap.size A B->C pre B)(hS:∀pre A a y v,C pre A->A.cell? a=E y->(∀k,y≠it .u32 k)->w.heap.size<=a.block->C pre (A.setCell a v))(ay:∀k fv,L[k]? =E fv->∃f q,fv= .func (.func f) #[] #[pn (E (Xd q 0 O))]/\(∀args w,(callFunc f args).run pg w= .ok (.enter f args) w)/\
  ∀pre x W,pre.length=k->x.length<=2000->Wr T w W->C pre W->Calls pg f #[gS ⟨x.toArray⟩,pn (E (Xd q 0 O))] W fun e W'=>e=Xa (G (ok k x))/\Wr T W W'/\(ok k x=true->C (pre ++ [x]) W'))(h0:C [] w):
 Calls pg 229 #[gS ⟨s.toArray⟩,V (E (Xd g 0 O)) L.length cap] w fun e w'=>
  e=Xa (G (zdS L.length ok (Zb s)))/\Wr T w w'/\(zdS L.length ok (Zb s)=true->C (Zb s) w'):=by
 obtain⟨m,hm⟩:∃m,L.length=m:=⟨_,rfl⟩;rw[hm]at ar ak⊢;have HS:=zf ay;have HK:=zf hK;have a8:=zf hS;have HR:=zf aw;have HM:=zf hm;have HW:=zf (fun k (t:k<(Zb s).length)=>zF (zqC k t) hs);have HQ:=zf (zoA s om (w.heap.size+2));have ab:=zf hT;obtain⟨b,hws⟩:∃b,Zb s=b:=⟨_,rfl⟩;rw[hws]at HW HQ⊢;refine Q0 func229 ntmps229 (h:=?_);gi_wp2;refine(zq.2 (zqx _ _)).mono ?_;rintro e w1 ⟨rfl,rfl⟩;gi_wp2;have au:∀x,w.heap.size<=x->¬T x:=fun x I ht=>by have:=ab.out x ht;omega
 have NT:=zf au;refine zaW HQ.out rfl (qW func301 kr rfl) (fun v K=>?_)
  (fun k N A=>k<=m/\Hid (∀o,o<k->ok o (b.getD o [])=true)/\C (b.take k) A/\Wr T w A/\
   (∃R r,A.cell? (Xd w.heap.size 0 O)=E (V R (m-k) r)/\(k<m->R=E (Xd g k O))/\m-k<=r/\r<=9223372036854775807)/\A.frozen? (Xd w.heap.size 0 O)=false/\
   A.cell? ⟨w.heap.size+1,0,O⟩=E (G false)/\A.frozen? ⟨w.heap.size+1,0,O⟩=false/\
   A.cell? ⟨w.heap.size+2,0,O⟩=E (gS ⟨s.toArray⟩)/\∀x,N x↔T x\/x=w.heap.size\/x=w.heap.size+1)
  (fun r k A=>r= .ret/\Wr T w A/\A.cell? ⟨w.heap.size+1,0,O⟩=E (G false)/\zdS m ok b=false) (fun x=>T x\/x=w.heap.size\/x=w.heap.size+1) ?hI ?hIx ?hC ?h0 ?round ?done ?stop
 case hI=>
  rintro k N A B ⟨J,F,c,j,⟨R,r,l,Z,h7,h8⟩,X,h,U,P,z⟩ t;have a2:=t.mono (B':=w.heap.size) so;exact⟨J,F,HK.out _ _ _ c a2,j.keep a2,⟨R,r,t.cell l,Z,h7,h8⟩,(t.frozen l).trans X,t.cell h,(t.frozen h).trans U,t.cell P,z⟩
 case hIx=>
  rintro r k A B ⟨J,F,c,j⟩ t;exact⟨J,F.keep (t.mono (B':=w.heap.size) so),t.cell c,j⟩
 case hC=>
  rintro k N A ⟨J,F,c,j,⟨R,r,l,Z,h7,h8⟩,X,h,U,P,z⟩;refine⟨P,fun x I=>?_⟩;rcases(z x).1 I with S|S|S
  ·exact zK (ab.out x S) j.size
  ·rw[S];exact zw l
  ·rw[S];exact zw h
 case h0=>
  refine⟨qo _,fun o hj=>om,HK.out _ _ _ h0 (((zn.alloc _ _ _).trans (zn.alloc _ _ _)).trans (zn.alloc _ _ _)),?_,⟨E (Xd g 0 O),cap,?_,fun _=>rfl,om,al⟩,?_,?_,?_,?_,fun _=>Qb⟩;·exact Xf ((((qf _ w).alloc (zh _) _).alloc sp _).alloc so _)
  ·exact(((ZU w _ _).alloc _).alloc _).cell
  ·exact(((ZU w _ _).alloc _).alloc _).frozen
  ·have:=((ZU (w.alloc (cl #[V (E (Xd g 0 O)) m cap] 331)) 4 (G false)).alloc (cl #[gS ⟨s.toArray⟩] 9)).cell;rwa [zL]at this
  ·have:=((ZU (w.alloc (cl #[V (E (Xd g 0 O)) m cap] 331)) 4 (G false)).alloc (cl #[gS ⟨s.toArray⟩] 9)).frozen;rwa [zL]at this
  ·have:=(ZU ((w.alloc (cl #[V (E (Xd g 0 O)) m cap] 331)).alloc (cl #[G false] 4)) 9 (gS ⟨s.toArray⟩)).cell;rwa [zL,zL]at this
 case round=>
  rintro aB k v N A K ⟨J,F,c,j,⟨R,r,l,Z,h7,h8⟩,X,h,U,P,z⟩;obtain⟨a2,hvx⟩:∃t:k<b.length,v=zgF (b.getD k []):=by
   rw[zR]at K;cases I:b[k]? with
   |none=>rw[I]at K;cases K
   |some x=>
    rw[I]at K;injection K with K
    exact⟨(zo.1 I).1,by rw[<-K,zk,I];rfl⟩
  obtain⟨x,I⟩:∃x,b.getD k []=x:=⟨_,rfl⟩;have aA:=I▸HW.out k a2;rw[I]at hvx;subst hvx;have HX:=zf I;unfold Zz zgF;gi_wp2;refine⟨Xi _ _,fun A2 a0=>?_⟩;have ae:=a0.mono (B':=w.heap.size) so;replace c:=HK.out _ _ _ c ae
  replace j:=j.keep ae
  replace X:=(a0.frozen l).trans X
  replace l:=a0.cell l
  replace U:=(a0.frozen h).trans U
  replace h:=a0.cell h
  replace P:=a0.cell P
  by_cases a4:k<m
  ·obtain rfl:=Z a4;obtain⟨d,hd⟩:∃d,m-k=d+1:=⟨m-k-1,om⟩;rw[hd]at l h7;obtain⟨fv,hfv⟩:∃fv,L[k]? =E fv:=⟨_,zg (by rw[HM.out];exact a4)⟩;obtain⟨f,q,rfl,_,aj⟩:=HS.out k fv hfv;have aG:=j.cell (p:=(Xd g k O)) hg (HR.out k _ hfv);have HC:=zf (aj (b.take k) x A2 (by rw[zX];omega) aA j c);gi_wp2;refine(Zq aB (zq.2 HC.out)).mono ?_;rintro e M ⟨rfl,Q,ax⟩;have p5:=Q.cell (p:=(Xd w.heap.size 0 O)) (NT.out _ (zh _)) l;have p9:=(Q.frozen (p:=(Xd w.heap.size 0 O)) (NT.out _ (zh _)) (zw l)).trans X;have af:=Q.cell (p:=⟨w.heap.size+1,0,O⟩) (NT.out _ sp) h;have aC:=(Q.frozen (p:=⟨w.heap.size+1,0,O⟩) (NT.out _ sp) (zw h)).trans U;have aD:=Q.cell (p:=⟨w.heap.size+2,0,O⟩) (NT.out _ sp) P;have aa:=j.trans Q;by_cases a5:ok k x=true
   ·have ah:=zf (ax a5);have H2:Hid (∀o,o<k+1->ok o (b[o]?.getD [])=true):=by
     intro o hj;rw[<-zk];by_cases aq:o<k
     ·exact F.out o aq
     ·obtain rfl:o=k:=om;rw[HX.out];exact a5
    have az:b.take (k+1)=b.take k ++ [x]:=by
     rw[ZB,<-HX.out,zk,zg a2];rfl
    have ai:=zf az;have ap:∀(D:Option Addr) (u:Nat),(0<d->D=E ⟨g,k+1,O⟩)->d<=u->u<=9223372036854775807->
     Wr N A2 (M.setCell (Xd w.heap.size 0 O) (V D d u))/\C (b.take (k+1)) (M.setCell (Xd w.heap.size 0 O) (V D d u))/\Wr T w (M.setCell (Xd w.heap.size 0 O) (V D d u))/\
     (M.setCell (Xd w.heap.size 0 O) (V D d u)).cell? (Xd w.heap.size 0 O)=E (V D (m-(k+1)) u)/\
     (M.setCell (Xd w.heap.size 0 O) (V D d u)).frozen? (Xd w.heap.size 0 O)=false/\
     (M.setCell (Xd w.heap.size 0 O) (V D d u)).cell? ⟨w.heap.size+1,0,O⟩=E (G false)/\
     (M.setCell (Xd w.heap.size 0 O) (V D d u)).frozen? ⟨w.heap.size+1,0,O⟩=false/\
     (M.setCell (Xd w.heap.size 0 O) (V D d u)).cell? ⟨w.heap.size+2,0,O⟩=E (gS ⟨s.toArray⟩):=by
     intro D u aE aF a9;refine⟨(Q.mono fun y Y=>(z y).2 (.inl Y)).setCell (p:=(Xd w.heap.size 0 O)) ((z _).2 (.inr (.inl rfl))) _,?_,aa.new (p:=(Xd w.heap.size 0 O)) (zh _) _,?_,by simpa using p9,?_,by simpa using aC,?_⟩
     ·rw[ai.out];exact a8.out _ _ ⟨w.heap.size,0,O⟩ _ _ ah.out p5 sp (zh _)
     ·rw[zN _ _ _ p5];rw[show m-(k+1)=d by omega]
     ·rw[far om];exact af
     ·rw[far om];exact aD
    have HF:=zf ap;gi_wp2
    ·obtain rfl:d=0:=om;obtain⟨f1,f2,f3,f4,f5,f6,f7,f8⟩:=HF.out (E (Xd g k O)) 0 om om om;exact⟨f1,N,⟨om,H2,f2,f3,⟨_,_,f4,om,om,om⟩,f5,f6,f7,f8,z⟩,fun y Y=> .inl Y⟩
    ·obtain⟨f1,f2,f3,f4,f5,f6,f7,f8⟩:=HF.out (E ⟨g,k+1,O⟩) (r-1) (fun _=>rfl) om om;exact⟨f1,N,⟨om,H2,f2,f3,⟨_,_,f4,fun _=>rfl,om,om⟩,f5,f6,f7,f8,z⟩,fun y Y=> .inl Y⟩
   ·have av:ok k x=false:=by simpa using a5
    gi_wp2;refine⟨?_,rfl,?_,?_,?_⟩;·exact(Q.mono fun y Y=>(z y).2 (.inl Y)).setCell (p:=⟨w.heap.size+1,0,O⟩) ((z _).2 (.inr (.inr rfl))) _
    ·exact aa.new (p:=⟨w.heap.size+1,0,O⟩) sp _
    ·exact zN _ _ _ af
    ·refine J2 fun hh=>?_
     have:=hh.2 k a4;rw[HX.out,av]at this;cases this
  ·obtain rfl:k=m:=om;rw[Qn]at l;gi_wp2;refine⟨?_,rfl,?_,?_,?_⟩;·exact(Xi _ _).setCell (p:=⟨w.heap.size+1,0,O⟩) ((z _).2 (.inr (.inr rfl))) _
   ·exact j.new (p:=⟨w.heap.size+1,0,O⟩) sp _
   ·exact zN _ _ _ h
   ·exact J2 fun hh=>om
 case done=>
  rintro a6 N A hD ⟨J,F,c,j,⟨R,r,l,Z,h7,h8⟩,X,h,U,P,z⟩ hd;rw[zm]at J F c l Z h7;have an:zdS m ok b=(((m-b.length:Nat):Int) == 0):=by
   rw[zcr,zdS,Z9,beq_iff_eq];constructor
   ·intro S;omega
   ·intro S;have he:b.length=m:=om;exact⟨he,fun o hj=>F.out o om⟩
  have a7:=zf an;gi_wp2;have ad:(A.setCell ⟨w.heap.size+1,0,O⟩ (G (((m-b.length:Nat):Int) == 0))).heap[a6]? =E (.deferred (E [])):=(qC _ _ _ _ (by simp at hD;simp;omega)).trans hd;have a1:zn w.heap.size (A.setCell ⟨w.heap.size+1,0,O⟩ (G (((m-b.length:Nat):Int) == 0))) _:=zn.putObj (.deferred O) (by simp at hD;omega) ad rfl;have a3:=a1.cell (zN A ⟨w.heap.size+1,0,O⟩ (G (((m-b.length:Nat):Int) == 0)) h);refine qh ad ?_;refine⟨G (((m-b.length:Nat):Int) == 0),by simp[results,results229,go_sem,a3],by rw[a7.out],(j.new (p:=⟨w.heap.size+1,0,O⟩) sp _).keep a1,fun hf=>?_⟩;rw[a7.out]at hf;have he:b.length=m:=by simp at hf;omega
  have a9:C b A:=by rw[zP (zh _)]at c;exact c
  exact HK.out _ _ _ (a8.out _ _ ⟨w.heap.size+1,0,O⟩ _ _ a9 h sp sp) a1
 case stop=>
  rintro a6 r k A hD t ⟨rfl,J,F,c⟩ hd;gi_wp2;have a1:zn w.heap.size A _:=zn.putObj (.deferred O) (by simp at hD;omega) hd rfl;have a3:=a1.cell F;refine qh hd ?_;exact⟨G false,by simp[results,results229,go_sem,a3],by rw[c],J.keep a1,fun hf=>by rw[c]at hf;cases hf⟩
 ·obtain⟨i,_,rfl⟩:=qP.1 K;rfl
end

section
open Go.RowKit
variable {a:Addr}{b g:Nat}{w w':H}{z:Int}{zs:List Int}
def Whs (w:H)(b:Nat)(zs:List Int):Prop:=qK w b/\∀j,j<zs.length->Q3 w b (2*j) (zs.getD j 0)
theorem Whs.lt(h:Whs w b zs):b<w.heap.size:=by
 obtain⟨_,a,_⟩:=h.1.1;exact(zd.1 a).1
theorem Whs.keep{B:Nat}(h:Whs w b zs)(a:zn B w w'):Whs w' b zs:=
 ⟨h.1.keep a,fun j c=>(h.2 j c).keep a⟩
theorem Whs.below(h:Whs w b zs)(hb:Below w.heap.size w w'):Whs w' b zs:=h.keep (B:=0) (zn.of_below hb)
theorem Q3.setCell{o:Nat}(h:Q3 w b o z){y:Value}(m:w.cell? a=E y)(l:∀k,y≠it .u32 k)(hb:a.block≠b)(v:Value):Q3 (w.setCell a v) b o z:=by
 obtain⟨x,c,p,d,e,f,g,i,j⟩:=h;exact⟨x,c,p,d,(qj _ _ _ _ hb).trans e,(qj _ _ _ _ hb).trans f,g.setCell m l v,by simpa using i,by simpa using j⟩
theorem qK.far(h:qK w b)(hb:a.block≠b)(v:Value):qK (w.setCell a v) b:=
 h.same (qC _ _ _ _ (fun e=>hb e.symm))
theorem Whs.setCell(h:Whs w b zs){y:Value}(e:w.cell? a=E y)(d:∀k,y≠it .u32 k)(hb:a.block≠b)(v:Value):Whs (w.setCell a v) b zs:=
 ⟨h.1.far hb v,fun j c=>(h.2 j c).setCell e d hb v⟩
theorem Q3.wr{T:Nat->Prop}{o:Nat}(h:Q3 w b o z)(a:Wr T w w')(hb:¬T b)(m:∀k,T k->qK w k):Q3 w' b o z:=by
 have c:=h.lt;obtain⟨x,d,q,e,f,g,i,j,l⟩:=h;exact⟨x,d,q,e,a.cell hb f,a.cell hb g,i.wr a m,(a.frozen (p:=(Xd b o O)) hb c).trans j,(a.frozen (p:=⟨b,o+1,O⟩) hb c).trans l⟩
theorem Whs.wr{T:Nat->Prop}(h:Whs w b zs)(a:Wr T w w')(hb:¬T b)(d:∀k,T k->qK w k):Whs w' b zs:=
 ⟨h.1.wr a hb,fun j c=>(h.2 j c).wr a hb d⟩
theorem Whs.put{j:Nat}{x:Bool}{a:Option Addr}{l c:Nat}(h:Whs w b zs)(f:j<zs.length)(g:zy w (ag #[G x,V a l c]) z):
 Whs ((w.setCell ⟨b,2*j,O⟩ (G x)).setCell ⟨b,2*j+1,O⟩ (V a l c)) b (zs.set j z):=by
 obtain⟨_,d,o,e,k,m,_⟩:=h.2 j f;refine⟨?_,fun i a=>?_⟩
 ·have f:(w.setCell ⟨b,2*j,O⟩ (G x)).cell? ⟨b,2*j+1,O⟩=E (V d o e):=by
   rw[zA _ _ _ _ (by intro e;injection e with _ d;omega)];exact m
  exact(h.1.setCell k sp).setCell f sp
 ·rw[qX]at a;by_cases d:i=j
  ·subst d;have e:(zs.set i z).getD i 0=z:=by simp[zk,a]
   rw[e];exact(h.2 i a).put h.1 g
  ·have e:(zs.set j z).getD i 0=zs.getD i 0:=by simp[zk,zal (Qr d)]
   rw[e];exact(h.2 i a).other h.1 om
theorem zig(x:List UInt8)(q b j o:Nat)(zs:List Int)(w:H)(h:w.cell? (Xd q 0 O)=E (pn (E (Xd b o O))))(ho:o=2*j)(d:Whs w b zs)(c:j<zs.length)(a:q≠b)(f:x.length<=2000):
 Calls pg 290 #[gS ⟨x.toArray⟩,pn (E (Xd q 0 O))] w fun e w'=>e=Xa (G (dOk x))/\Wr (fun k=>k=b) w w'/\(dOk x=true->Whs w' b (zs.set j (T.wZ x))):=by
 subst ho;refine(zgi x q b (2*j) _ w h (d.2 j c) a om).mono ?_;rintro e w' ⟨rfl,_,_,_,_,_,a,rfl,g⟩;refine⟨rfl,((Xf (T:=fun k=>k=b) a).setCell (p:=⟨b,2*j,O⟩) rfl _).setCell (p:=⟨b,2*j+1,O⟩) rfl _,fun f=>?_⟩;exact(d.below a).put c (g f)
def zbh (pos:Nat->Nat):Nat->List Int->List (List UInt8)->List Int
 |_,zs,[]=>zs
 |k,zs,x::r=>zbh pos (k+1) (zs.set (pos k) (T.wZ x)) r
theorem zhp(a:Nat->Nat)(x:List UInt8):∀(r:List (List UInt8)) (k:Nat) (zs:List Int),zbh a k zs (r ++ [x])=(zbh a k zs r).set (a (k+r.length)) (T.wZ x)
 |[],k,zs=>by simp[zbh]
 |y::r,k,zs=>by
  rw[ZZ,zbh,zhp a x r,zbh,qi,show k+1+r.length=k+(r.length+1)by omega]
theorem zeh(a:Nat->Nat):∀(r:List (List UInt8)) (k:Nat) (zs:List Int),(zbh a k zs r).length=zs.length
 |[],_,_=>rfl
 |_::r,k,zs=>by rw[zbh,zeh a r,qX]
theorem zkx{m:Nat}{cs:Array Value}{t:TypeId}(h:w.heap[g]? =E (cl cs t (0,0)))(hs:cs.size=2*m)(b:∀j,j<m->cs[2*j]? =E (G false)/\cs[2*j+1]? =E (V O 0 0)):Whs w g (List.replicate m 0):=by
 refine⟨zE h fun v c=>?_,fun j a=>?_⟩
 ·obtain⟨i,d,rfl⟩:=Array.mem_iff_getElem.1 (by simpa using c:v∈cs);have c:=b (i/2) om;rcases Nat.mod_two_eq_zero_or_one i with e|e
  ·have:=c.1;rw[show 2*(i/2)=i by omega,qD d]at this;injection this with this
   rw[this];intro n e;cases e
  ·have:=c.2;rw[show 2*(i/2)+1=i by omega,qD d]at this;injection this with this
   rw[this];intro n e;cases e
 ·rw[zbz]at a;have e:(List.replicate m (0:Int)).getD j 0=0:=by simp[zk,zcS,a]
  rw[e];refine⟨false,O,0,0,?_,?_,⟨false,_,rfl,Xm _ _ _,by rw[Hid];rfl⟩,ZK w g _ cs t h,ZK w g _ cs t h⟩;·rw[ze w g _ cs t _ h];exact(b j a).1
  ·rw[ze w g _ cs t _ h];exact(b j a).2
theorem zje{n size:Nat}{e:TypeId}{z:Array Value}(h:w.ownsRow 0 e size (V (E (Xd g 0 O)) n n) n (madeCells z (n*size)).toList):w.heap[g]? =E (cl (madeCells z (n*size)) e (0,0)):=by
 obtain⟨_,c|⟨_,_,_,b,_,d,_,_,_,a⟩⟩:=h;·exact absurd c.1 sp
 ·simp only[qp,qN,Jg]at b;obtain⟨⟨rfl,_,_⟩,_,rfl⟩:=b;rw[zP so]at a;rw[d];congr 2
  exact Array.toList_inj.1 a
theorem zei{z:Array Value}{m j:Nat}(h:j<m):(madeCells z m)[j]? =E (z[j%z.size]!):=by
 simp[madeCells,h]
theorem zoC{n:Nat}{e:TypeId}(h:w.ownsRow 0 e 6 (V (E (Xd g 0 O)) n n) n (madeCells #[G false,V O 0 0,G false,V O 0 0,G false,V O 0 0] (n*6)).toList):Whs w g (List.replicate (3*n) 0):=by
 refine zkx (zje h) (by rw[size_madeCells];omega) fun j a=>⟨?_,?_⟩
 ·rw[zei om];have:(2*j)%(#[G false,V O 0 0,G false,V O 0 0,G false,V O 0 0]:Array Value).size=0\/(2*j)%(#[G false,V O 0 0,G false,V O 0 0,G false,V O 0 0]:Array Value).size=2\/(2*j)%(#[G false,V O 0 0,G false,V O 0 0,G false,V O 0 0]:Array Value).size=4:=so;rcases this with e|e|e<;>(rw[e];rfl)
 ·rw[zei om];have:(2*j+1)%(#[G false,V O 0 0,G false,V O 0 0,G false,V O 0 0]:Array Value).size=1\/(2*j+1)%(#[G false,V O 0 0,G false,V O 0 0,G false,V O 0 0]:Array Value).size=3\/(2*j+1)%(#[G false,V O 0 0,G false,V O 0 0,G false,V O 0 0]:Array Value).size=5:=so;rcases this with e|e|e<;>(rw[e];rfl)
theorem zeK(w:H)(a b c d:Obj):((((w.alloc a).alloc b).alloc c).alloc d).heap[w.heap.size]? =E a/\((((w.alloc a).alloc b).alloc c).alloc d).heap[w.heap.size+1]? =E b/\((((w.alloc a).alloc b).alloc c).alloc d).heap[w.heap.size+1+1]? =E c/\((((w.alloc a).alloc b).alloc c).alloc d).heap[w.heap.size+1+1+1]? =E d:=by
 have h:(w.alloc a).heap.size=w.heap.size+1:=zL _ _;have i:((w.alloc a).alloc b).heap.size=w.heap.size+1+1:=by rw[zL,h]
 have k:(((w.alloc a).alloc b).alloc c).heap.size=w.heap.size+1+1+1:=by rw[zL,i]
 have j:=qR w a;have e:=qR (w.alloc a) b;have f:=qR ((w.alloc a).alloc b) c;have g:=qR (((w.alloc a).alloc b).alloc c) d;rw[h]at e;rw[i]at f;rw[k]at g;refine⟨?_,?_,?_,g⟩;·rw[qH _ _ _ om,qH _ _ _ om,qH _ _ _ om];exact j
 ·rw[qH _ _ _ om,qH _ _ _ om];exact e
 ·rw[qH _ _ _ om];exact f
theorem Tryz.infoColumn:(Tryz.prog.info? 137).map (fun i=>(i.zero,i.size,i.bytes))=E (E (ag #[G false,V O 0 0,G false,V O 0 0,G false,V O 0 0]),6,96):=by kernel_rfl
theorem Tryz.infoWhole:(Tryz.prog.info? 85).map (fun i=>(i.zero,i.size,i.bytes))=E (E (ag #[G false,V O 0 0]),2,32):=by kernel_rfl
theorem Tryz.infoRow:(Tryz.prog.info? 143).map (fun i=>(i.zero,i.size,i.bytes))=E (E (ag #[gS ⟨#[]⟩,G false,V O 0 0,V O 0 0]),4,72):=by kernel_rfl
end

namespace T
open Go.RowKit
structure RowT where
 g:Option Addr×Nat×Nat
 r:Tri
def RowT.gv (c:RowT):Value:=V c.g.1 c.g.2.1 c.g.2.2
def RowT.cells (c:RowT):List Value:= [c.gv,G c.r.b,c.r.up,c.r.down]
theorem set_block {w:H}{g i:Nat}{v:Value}{cs:Array Value}{t:TypeId}{a:Nat×Nat}(h:w.heap[g]? =E (cl cs t a)):(w.setCell (Xd g i O) v).heap[g]? =E (cl (cs.setIfInBounds i v) t a):=by
 unfold World.setCell;simp only[zby,zbu,h,qY];rfl
abbrev _root_.Go.Proofs.YtmimmcmbgnjjcaaGreatDoor.Xk:=@set_block
def zT:Tri:=⟨false,(O,0,0),(O,0,0)⟩
theorem frozen_row {w:H}{g j:Nat}{cs:Array Value}{t:TypeId}(h:w.heap[g]? =E (cl cs t)):w.frozen? (Xd g j O)=false:=by
 simp[World.frozen?,h]
abbrev _root_.Go.Proofs.YtmimmcmbgnjjcaaGreatDoor.Xg:=@frozen_row
theorem two_new (w:H)(a b:Obj):((w.alloc a).alloc b).heap[w.heap.size]? =E a/\((w.alloc a).alloc b).heap[w.heap.size+1]? =E b:=by
 have e:(w.alloc a).heap.size=w.heap.size+1:=sp;refine⟨(qH _ _ _ om).trans (zC w a),?_⟩;have:=zC (w.alloc a) b;rwa [e]at this
abbrev _root_.Go.Proofs.YtmimmcmbgnjjcaaGreatDoor.Xj:=@two_new
