import Derived.Test.YtnhfdcfnojnofaaGreatDoorAds1Z41
import Derived.Test.YtnhfdcfnojnofaaGreatDoorAds1Z42
open Option renaming none->O,some->E
open Go.Value renaming slice->V,bool->G,string->gS,pointer->pn,tuple->tp,int->it,agg->ag
open Go.Obj renaming cells->cl
open Go renaming World->H
open Go.Proofs.Tryz renaming prog->pg
open Go.Proofs.Tryz
set_option linter.unusedSimpArgs false
set_option linter.unusedVariables false
set_option maxHeartbeats 2000000
set_option maxRecDepth 100000
namespace Go.Proofs.YtnhfdcfnojnofaaGreatDoor
open Go.RowKit
theorem zjE (rs:List jX)(i j:Nat)(r:jX)(h:rs[i]? =E r)(a:j<4):(zaq rs)[i*4+j]? =r.cells[j]?:=by
 induction rs generalizing i with
 |nil=>simp at h
 |cons t a b=>
  rw[show zaq (t::a)=t.cells++zaq a by simp[zaq]];cases i with
  |zero=>
   simp at h;subst h;rw[zM (by simp[jX.cells];omega),zcD,qi]
  |succ i=>
   rw[zJ (by simp[jX.cells];omega),show(i+1)*4+j-t.cells.length=i*4+j by simp[jX.cells];omega];exact b i (by simpa using h)
theorem zei {a:Type}{l:List a}{k:Nat}(d:a)(h:k<l.length):l[k]? =E (l.getD k d):=by
 rw[zk,zj h];rfl
attribute [local go_sem] qm qW ZR
def zdM (p:Nat->Bool):Nat->Nat->Nat
 |_,0=>0
 |k,m+1=>if p k=true then zdM p (k+1) m+1 else 1
theorem zhM (p:Nat->Bool):∀(m k:Nat),zdM p k m<=m
 |0,_=>zh _
 |m+1,k=>by
  unfold zdM;split
  ·have:=zhM p m (k+1);omega
  ·omega
theorem zgN (p:Nat->Bool)(m k:Nat)(h:0<m):0<zdM p k m:=by
 obtain⟨m,rfl⟩:∃a,m=a+1:=⟨m-1,om⟩;unfold zdM;split<;>omega
theorem zhN (p:Nat->Bool):∀(m k j:Nat),j<zdM p k m->(p (k+j)=false->zdM p k m=j+1)/\(p (k+j)=true->(j+1<m->j+1<zdM p k m)/\(j+1=m->zdM p k m=j+1))
 |0,_,_,h=>by simp[zdM]at h
 |m+1,k,j,h=>by
  unfold zdM at h⊢;cases hp:p k with
  |false=>
   rw[hp]at h;simp only[Q4,Jg]at h⊢;obtain rfl:j=0:=om;rw[qy,hp];exact⟨fun _=>rfl,(fun h=>by cases h)⟩
  |true=>
   rw[hp]at h;simp only[jo]at h⊢;cases j with
   |zero=>
    rw[qy,hp];refine⟨(fun h=>by cases h),fun _=>⟨fun a=>?_,fun a=>?_⟩⟩
    ·have:=zgN p m (k+1) om;omega
    ·have:=zhM p m (k+1);omega
   |succ j=>
    have b:=zhN p m (k+1) j om;rw[show k+1+j=k+(j+1)by omega]at b;refine⟨(fun a=>by rw[b.1 a]),fun a=>⟨fun c=>?_,fun c=>?_⟩⟩
    ·have:=(b.2 a).1 om;omega
    ·have:=(b.2 a).2 om;omega
def zab (s:List UInt8):List (List UInt8×Bool):=if s= []then [([],false)]else qE s
def za8 (L:List (List UInt8×Bool))(k:Nat):Bool:=Je (decide (k+1=L.length)) (L.getD k ([],false))
def zbj (L:List (List UInt8×Bool)):Nat:=zdM (za8 L) 0 L.length
def LogY (L:List (List UInt8×Bool))(k:Nat)(v:Array Value)(W:H):Prop:=
 ∃d:DL,v=#[d.val,G (za8 L k)]/\d.n=((k+1:Nat):Int)/\(za8 L k=true->d.e=decide (k+1=L.length)/\JZ W d.pv (((qg (L.getD k ([],false)).1).drop 1).map jx))
theorem zey:∀(l:List (List UInt8×Bool)) (j k:Nat) (v:Array Value),(JS j l)[k]? =E v->v=zf8 (j+k) (l.getD k ([],false)) (decide (k+1=l.length))
 |[],_,_,_,h=>by simp[JS]at h
 |x::r,j,0,v,h=>by
  simp only[JS,zb2,z7]at h;rw[<-h];have e:r.isEmpty=decide (0+1=(x::r).length):=by cases r<;>simp
  rw[e];rfl
 |x::r,j,k+1,v,h=>by
  simp only[JS,Jt]at h;have a:=zey r (j+1) k v h;rw[a,show j+1+k=j+(k+1)by omega];simp
theorem zfr (s:List UInt8):qE s= []↔s= []:=by
 have h:=zfL (f:=s.length) (l:=s) (zh _);have e:qE s=jR s.length s:=rfl;rw[e,<-List.isEmpty_iff,h,List.isEmpty_iff]
theorem znT (s:ByteArray)(w:H):
 Calls pg 161 #[gS s] w fun e w'=>e= .returned (.func (.func 255) #[] #[pn (E ⟨w.heap.size,0,O⟩)])/\w'=w.alloc (cl #[gS s] 9):=by
 go_enter func161,ntmps161
 have a:=JN;go_wp2;go_ret;exact⟨rfl,rfl⟩
def OfI (J:Nat->(Nat->Prop)->H->Prop)(L:List (List UInt8×Bool))(l b0 b1:Nat)(s:List UInt8)(k:Nat)(M:Nat->Prop)(A:H):Prop:=
 J k M A/\A.cell? ⟨b0,0,O⟩=E (.func (.yield l) #[] #[])/\A.cell? ⟨b1,0,O⟩=E (gS ⟨s.toArray⟩)/\¬M b0/\¬M b1/\(k<L.length->k<zbj L)/\(k=L.length->zbj L=k)
def OfX (J:Nat->(Nat->Prop)->H->Prop)(Jx:Nat->H->Prop)(L:List (List UInt8×Bool))(c:Code)(k:Nat)(A:H):Prop:=
 c= .ret/\k<zbj L/\(Jx k A\/(zbj L=k+1/\∃M,J (k+1) M A))
theorem zmx (s:List UInt8)(b:s≠ [])(hs:s.length<=90000)(c:Nat):
 J0 pg 255 #[pn (E ⟨c,0,O⟩)] (zbj (qE s)) (LogY (qE s)) (fun W=>W.cell? ⟨c,0,O⟩=E (gS ⟨s.toArray⟩)):=by
 intro i J t a W o Y hC e h0;have g:=(hC 0 a W h0).1;have C:=zi hC;have u:=zi e;have d:=zi b;have d:(s == [])=false:=by simpa using b
 have d:=zbd s.length s;have f:Hid ((qE s).length<=90000/\∀x∈qE s,x.1.length<=90000):=⟨zL d.1 hs,fun x R=>zL (d.2 x R) hs⟩;have j:0<(qE s).length:=by
  rw[Zq,ne_eq,zfr];exact b
 clear e hC b d;refine JO func255 ntmps255 (h:=?_);have b:c<W.heap.size:=zN g;gi_wp2;refine(zS.2 (zkY _ _)).mono ?_;rintro g b ⟨rfl,rfl⟩;gi_wp2;refine jB (zji s om (W.heap.size+1)).seq rfl (ZJ func237 kr rfl) (fun k v W l=>by rw[zey _ _ _ _ l];rfl)
  (OfI J (qE s) i W.heap.size (W.heap.size+1) s) (OfX J t (qE s)) a ?hI ?hIx ?hC ?h0 ?round ?done ?stop
 case hI=>
  rintro k M A B ⟨c,e,b,m,r,z⟩ q;exact⟨o _ _ _ _ c (q.mono so),q.cell e,q.cell b,m,r,z⟩
 case hIx=>
  rintro Z k A B ⟨c,e,b⟩ q;refine⟨c,e,?_⟩;rcases b with b|⟨b,M,m⟩
  ·exact .inl (Y _ _ _ b (q.mono so))
  ·exact .inr ⟨b,M,o _ _ _ _ m (q.mono so)⟩
 case hC=>
  rintro k M A ⟨c,e,b,m,r,z⟩;exact⟨b,(C.out k M A c).2⟩
 case h0=>
  refine⟨o _ _ _ _ h0 ((zw.alloc _ _ _).trans (zw.alloc _ _ _)),?_,?_,?_,?_,fun h=>zgN _ _ _ j,fun h=>om⟩;·exact((Qp W 360 (.func (.yield i) #[] #[])).alloc _).cell
  ·exact c_ 0 (T.zbs W _ _).2
  ·intro h;have:=(C.out 0 a W h0).2 _ h;omega
  ·intro h;have:=(C.out 0 a W h0).2 _ h;omega
 case round=>
  rintro S k v M A a l ⟨c,e,b,m,r,z,Q⟩;rw[zdV]at a;have F:=z a;have d:=zey _ _ _ _ l;rw[qi]at d;subst d;have w:(qE s).getD k ([],false)∈qE s:=by
   rw[zk,zj a];exact zZ a
  have v:=f.out.2 _ w;have n:=zi (zhN (za8 (qE s)) (qE s).length 0 k F);rw[qi]at n;have L:Hid (∀a,Calls pg 256 #[ag #[it .i64 ((k+1:Nat):Int),gS ⟨((qE s).getD k ([],false)).1.toArray⟩,G ((qE s).getD k ([],false)).2,G (decide (k+1=(qE s).length))]] a fun g f=>∃d:DL,g= .returned (tp #[d.val,G (za8 (qE s) k)])/\d.n=((k+1:Nat):Int)/\(za8 (qE s) k=true->d.e=decide (k+1=(qE s).length)/\JZ f d.pv (((qg ((qE s).getD k ([],false)).1).drop 1).map jx))/\Below a.heap.size a f):=fun a=>zjD _ _ _ v a
  have N:Hid (∀(d:DL) (a:H),d.n=((k+1:Nat):Int)->(za8 (qE s) k=true->d.e=decide (k+1=(qE s).length)/\JZ a d.pv (((qg ((qE s).getD k ([],false)).1).drop 1).map jx))->J k M a->YieldAt Fence.wide 0 pg i #[d.val,G (za8 (qE s) k)] a fun g f=>
   (g= .returned (G true)/\Wr M a f/\∃j,J (k+1) j f/\∀x,j x->M x\/a.heap.size<=x)\/(g= .returned (G false)/\Wr M a f/\t k f)):=fun d a D I y=>u.out k _ M a F ⟨d,rfl,D,I⟩ y
  have u:Hid (∀ok,za8 (qE s) k=ok->(ok=false->zbj (qE s)=k+1)/\(ok=true->(k+1<(qE s).length->k+1<zbj (qE s))/\(k+1=(qE s).length->zbj (qE s)=k+1))):=fun ok h=>by rw[<-h];exact n.out
  clear l w v n;unfold zf8;obtain⟨ok,hok⟩:∃ok,za8 (qE s) k=ok:=⟨_,rfl⟩;have K:=zi (u.out ok hok);rw[hok]at L N;clear hok u;generalize decide (k+1=(qE s).length)=last at *;generalize ((qg ((qE s).getD k ([],false)).1).drop 1).map jx=ps at *;generalize (qE s).getD k ([],false)=x at *;obtain⟨y,u⟩:=x;simp only at L⊢;unfold Qr;gi_wp2;refine⟨Wr.of_below ((Ext.refl A).alloc _),fun l v=>?_⟩;have n:=(zw.alloc _ A (cl #[it .i64 ((k+1:Nat):Int),gS ⟨y.toArray⟩,G u,G last] 243)).trans v;have B:zw W.heap.size A l:=n.mono so;have P:=n.cell e;have X:=n.cell b;have w:=v.block _ _ (zq A (cl #[it .i64 ((k+1:Nat):Int),gS ⟨y.toArray⟩,G u,G last] 243)) (.inr rfl);have n:=c_ 0 w;have n:=c_ 1 w;have n:=c_ 2 w;have n:=c_ 3 w;have a0:=o _ _ _ _ c B;have n:=B.size;have n:W.heap.size+1<l.heap.size:=zN X;have U:Hid (∀(d:DL) (a:H),d.n=((k+1:Nat):Int)->(ok=true->d.e=last/\JZ a d.pv ps)->Ext l a->∃y B u v,(Instr.yield i #[d.val,G ok]).run pg a= .ok (.round i y B u v) a/\
   RoundIn (Fence.wide.inRound S) 0 pg i y B u v a fun g f=>∃n,g= .returned (G n)/\Hid ((n=true->ok=true->Wr M l f/\∃j,OfI J (qE s) i W.heap.size (W.heap.size+1) s (k+1) j f/\∀x,j x->M x\/A.heap.size<=x)/\(n=true->ok=false->Wr M l f/\OfX J t (qE s) .ret k f)/\(n=false->Wr M l f/\OfX J t (qE s) .ret k f))):=by
   intro d a D I i;obtain⟨y,B,u,v,t,x⟩:=zd6 S 0 (N.out d a D I (o _ _ _ _ a0 (zw.of_below (i.mono om))));refine⟨y,B,u,v,t,x.mono ?_⟩;rintro g f ⟨n,rfl,a⟩;have d:=i.size;refine⟨n,rfl,fun h I=>?_,fun h I=>?_,fun h=>?_⟩
   ·obtain⟨d,j,J,f⟩:=a.out.1 h;refine⟨(Wr.of_below i).trans d,j,⟨J,d.cell (p:=⟨W.heap.size,0,O⟩) m (i.cell P),d.cell (p:=⟨W.heap.size+1,0,O⟩) r (i.cell X),fun h=>?_,fun h=>?_,((K.out.2 I).1),((K.out.2 I).2)⟩,fun X t=>?_⟩
    ·rcases f _ h with h|h
     ·exact m h
     ·omega
    ·rcases f _ h with h|h
     ·exact r h
     ·omega
    ·rcases f X t with h|h
     ·exact .inl h
     ·exact .inr om
   ·obtain⟨d,j,J,f⟩:=a.out.1 h;exact⟨(Wr.of_below i).trans d,rfl,F,.inr ⟨K.out.1 I,j,J⟩⟩
   ·obtain⟨d,R⟩:=a.out.2 h;exact⟨(Wr.of_below i).trans d,rfl,F,.inl R⟩
  clear w c e b N;gi_wp2;refine(Zr S (zS.2 (L.out _))).mono ?_;rintro g L ⟨⟨w,j,⟨F,J,I⟩⟩,rfl,K,f,d⟩;have i:Ext l (L.alloc (cl #[it .i64 w,G j,V F J I] 259)):=(Ext.of d).alloc _;have l:=i.cell P;have l:=(Ext.of d).cell P;obtain⟨y,B,u,v,t,x⟩:=U.out ⟨w,j,(F,J,I)⟩ _ K (fun h=>⟨(f h).1,(f h).2.ext ((Ext.refl L).alloc _)⟩) i;simp only[DL.val,DL.pv]at t⊢;clear K f d U;gi_wp2;refine x.mono ?_;rintro g d ⟨n,rfl,a⟩;clear x t;cases n with
  |false=>
   gi_wp2;exact a.out.2.2 trivial
  |true=>
   cases ok with
   |false=>
    gi_wp2;exact a.out.2.1 trivial trivial
   |true=>
    gi_wp2;exact a.out.1 trivial trivial
 case done=>
  rintro f M A d ⟨c,e,b,m,r,z,Q⟩ a;have g:=(C.out _ _ _ c).1;rw[zdV]at c Q;have D:=Q rfl;gi_wp2;refine qt a ?_;refine⟨_,qY rfl _ _ _,⟨_,rfl⟩,.inl ⟨M,?_⟩⟩;exact o _ _ _ _ c (zw.putObj _ (by simp at d;omega) a rfl)
 case stop=>
  rintro f Z k A d q ⟨rfl,c,e⟩ a;gi_wp2;refine qt a ?_;have g:zw W.heap.size A (A.putObj f (.deferred O)):=zw.putObj _ (by simp at d;omega) a rfl;rcases e with e|⟨e,M,b⟩
  ·exact⟨_,qY rfl _ _ _,⟨_,rfl⟩,.inr ⟨k,c,Y _ _ _ e g⟩⟩
  ·exact⟨_,qY rfl _ _ _,⟨_,rfl⟩,.inl ⟨M,by rw[e];exact o _ _ _ _ b g⟩⟩
def OfI0 (J:Nat->(Nat->Prop)->H->Prop)(l b0 b1:Nat)(k:Nat)(M:Nat->Prop)(A:H):Prop:=
 J k M A/\A.cell? ⟨b0,0,O⟩=E (.func (.yield l) #[] #[])/\A.cell? ⟨b1,0,O⟩=E (gS ⟨#[]⟩)/\∀x,M x->x<b0
theorem ziG (c:Nat):
 J0 pg 255 #[pn (E ⟨c,0,O⟩)] 1 (LogY [([],false)]) (fun W=>W.cell? ⟨c,0,O⟩=E (gS ⟨#[]⟩)):=by
 intro l J k e W g m hC i h0;have n:=(hC 0 e W h0).1;have d:=zi hC;have j:Hid (∀M a,J 0 M a->YieldAt Fence.wide 0 pg l #[ag #[it .i64 1,G false,V O 0 0],G false] a fun f b=>(f= .returned (G true)/\Wr M a b/\∃h,J 1 h b/\∀x,h x->M x\/a.heap.size<=x)\/(f= .returned (G false)/\Wr M a b/\k 0 b)):=
  fun M a b=>i 0 _ M a om ⟨⟨1,false,(O,0,0)⟩,rfl,rfl,(fun h=>by cases h)⟩ b
 clear i hC;refine JO func255 ntmps255 (h:=?_);have a:c<W.heap.size:=zN n;gi_wp2;refine(zS.2 (zkY _ _)).mono ?_;rintro f a ⟨rfl,rfl⟩;gi_wp2;refine jB (zji [] sp (W.heap.size+1)).seq rfl (ZJ func237 kr rfl) (fun k v W a=>by rw[zey _ _ _ _ a];rfl)
  (OfI0 J l W.heap.size (W.heap.size+1)) (fun _ _ _=>False) e ?hI ?hIx ?hC ?h0 ?round ?done ?stop
 case hI=>
  rintro k M A B ⟨a,f,b,c⟩ i;exact⟨g _ _ _ _ a (i.mono so),i.cell f,i.cell b,c⟩
 case hIx=>exact fun _ _ _ _ h _=>h
 case hC=>
  rintro k M A ⟨a,f,b,c⟩;exact⟨b,(d.out k M A a).2⟩
 case h0=>
  refine⟨g _ _ _ _ h0 ((zw.alloc _ _ _).trans (zw.alloc _ _ _)),?_,?_,(d.out 0 e W h0).2⟩;·exact((Qp W 360 (.func (.yield l) #[] #[])).alloc _).cell
  ·exact c_ 0 (T.zbs W _ _).2
 case round=>
  rintro e k v M A e;exact absurd e (by simp[qE,jR,JS])
 case done=>
  rintro D M A e ⟨a,f,b,c⟩ f;have b:=(d.out _ _ _ a).1;have b:J 0 M A:=a;clear a;gi_wp2;have d:¬M D:=fun h=>by
   have:=c D h;simp at e;omega
  refine jt (j.out M A b) ?_ ?_
  ·rintro j ⟨c,i,b,_⟩;gi_wp2;have a:=c.some f d;refine qt a ?_;exact⟨_,qY rfl _ _ _,⟨_,rfl⟩,.inl ⟨i,g _ _ _ _ b (zw.putObj _ (by simp at e;omega) a rfl)⟩⟩
  ·rintro j ⟨c,b⟩;gi_wp2;have a:=c.some f d;refine qt a ?_;exact⟨_,qY rfl _ _ _,⟨_,rfl⟩,.inr (m _ _ _ b (zw.putObj _ (by simp at e;omega) a rfl))⟩
 case stop=>exact fun _ _ _ _ _ _ h _=>h.elim
theorem zmy (s:List UInt8)(hs:s.length<=90000)(a:Nat):
 J0 pg 255 #[pn (E ⟨a,0,O⟩)] (zbj (zab s)) (LogY (zab s)) (fun W=>W.cell? ⟨a,0,O⟩=E (gS ⟨s.toArray⟩)):=by
 unfold zab;by_cases h:s= []
 ·subst h;exact ziG a
 ·rw[zW h];exact zmx s h hs a
end Go.Proofs.YtnhfdcfnojnofaaGreatDoor
