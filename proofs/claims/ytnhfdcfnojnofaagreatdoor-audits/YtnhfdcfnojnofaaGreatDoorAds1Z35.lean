import Derived.Test.YtnhfdcfnojnofaaGreatDoorAds1Z34
open Option renaming none->O,some->E
open Go.Value renaming slice->V,bool->G,pointer->pn,agg->ag
open Go.Obj renaming cells->cl
open Go renaming World->H
open Go.Proofs.Tryz renaming prog->pg
open Go.Proofs.Tryz
set_option linter.unusedSimpArgs false
set_option linter.unusedVariables false
set_option maxHeartbeats 2000000
set_option maxRecDepth 100000
namespace Go.Proofs.YtnhfdcfnojnofaaGreatDoor
open Go.RowKit
attribute [local go_sem] qm qW ZR
theorem zfo (a:Option Addr)(c b:Nat)(w:H):
 Calls pg 254 #[ag #[V a c b]] w fun e w'=>e= .returned (.func (.func 285) #[] #[pn (E ⟨w.heap.size+1,0,O⟩)])/\w'=(w.alloc (cl #[V a c b] 172)).alloc (cl #[V a c b] 158):=by
 go_enter func254,ntmps254
 go_wp2_with fail
 refine(zg6 a c b _).mono ?_;rintro e a ⟨rfl,rfl⟩;go_wp2;go_ret;exact⟨sp,rfl⟩
theorem zon (a:Option Addr)(c b:Nat)(f:Nat)(w:H):
 Calls pg 348 #[ag #[V a c b],.func (.func f) #[] #[]] w fun e w'=>e= .returned (.func (.func 379) #[] #[pn (E ⟨w.heap.size,0,O⟩),pn (E ⟨w.heap.size+1,0,O⟩)])/\w'=(w.alloc (cl #[V a c b] 172)).alloc (cl #[.func (.func f) #[] #[]] 246):=by
 go_enter func348,ntmps348
 have a:=JN;go_wp2;go_ret;exact⟨rfl,rfl⟩
theorem znO (f:Option Addr)(c g:Nat)(zs:List Int)(ts:List WT)(e:ts.length=zs.length)(a b:Nat)(d:zs.length<=1000000):
 J0 pg 379 #[pn (E ⟨a,0,O⟩),pn (E ⟨b,0,O⟩)] zs.length (fun k v W=>∃(t:WT) (z:Int),zs[k]? =E z/\v=#[t.val]/\zY W t.val (-z))
  (fun W=>W.cell? ⟨a,0,O⟩=E (V f ts.length g)/\W.cell? ⟨b,0,O⟩=E (.func (.func 209) #[] #[])/\T.Recs W (V f ts.length g) 2 (ts.map WT.cells)/\∀(i:Nat) (t:WT) (z:Int),ts[i]? =E t->zs[i]? =E z->zY W t.val z):=by
 intro n L P b W B S hC d h0;obtain⟨h,_,-,-⟩:=(hC 0 b W h0).1;have c:=zi hC;have Z:=zi d;have D:=zi e;have j:Tryz.prog.follows .mixedOrders=true:=kr;clear d hC e;refine JO func379 ntmps379 (h:=?_);have d:a<W.heap.size:=zN h;gi_wp2;refine(zS.2 (zfo f ts.length g _)).mono ?_;rintro e a ⟨rfl,rfl⟩;gi_wp2;refine jB (zef ts f g (W.heap.size+1+1) (by have:=D.out;omega)) rfl (ZJ func285 kr rfl) (fun k v W=>by rintro⟨t,_,rfl⟩;rfl)
  (fun k M A=>L k M A/\A.cell? ⟨W.heap.size,0,O⟩=E (.func (.yield n) #[] #[])/\A.cell? ⟨W.heap.size+1+1,0,O⟩=E (V f ts.length g)/\¬M W.heap.size/\¬M (W.heap.size+1+1)) (fun I k A=>I= .ret/\P k A) b ?hI ?hIx ?hC ?h0 ?round ?done ?stop
 case hI=>
  rintro k M A d ⟨a,j,m,r,s⟩ u;exact⟨B _ _ _ _ a (u.mono so),u.cell j,u.cell m,r,s⟩
 case hIx=>
  rintro I k A d ⟨a,j⟩ u;exact⟨a,S _ _ _ j (u.mono so)⟩
 case hC=>
  rintro k M A ⟨a,j,m,r,s⟩;exact⟨⟨m,(c.out k M A a).1.2.2.1⟩,(c.out k M A a).2⟩
 case h0=>
  refine⟨B _ _ _ _ h0 (((zw.alloc _ _ _).trans (zw.alloc _ _ _)).trans (zw.alloc _ _ _)),?_,?_,?_,?_⟩;·exact(((Qp W 250 (.func (.yield n) #[] #[])).alloc _).alloc _).cell
  ·have:=(Qp ((W.alloc (cl #[.func (.yield n) #[] #[]] 250)).alloc (cl #[V f ts.length g] 172)) 158 (V f ts.length g)).cell;simpa using this
  ·intro h;have:=(c.out 0 b W h0).2 _ h;omega
  ·intro h;have:=(c.out 0 b W h0).2 _ h;omega
 case round=>
  rintro N k v M A b ⟨b,d,rfl⟩ ⟨a,j,m,r,s⟩;have U:k<zs.length:=by have:=D.out;omega
  obtain⟨z,hz⟩:∃z,zs[k]? =E z:=⟨_,zj U⟩;have K:=(c.out k M A a).1.2.2.2 k b z d hz;obtain⟨o,l,w,q⟩:=b;simp only[WT.val,WT.sv]at K⊢;unfold Qr;gi_wp2;refine⟨Wr.of_below ((Ext.refl A).alloc _),fun b y=>?_⟩;have d:=(zw.alloc _ A (cl #[G o,V l w q] 101)).trans y;have x:zw W.heap.size A b:=d.mono so;have Q:=d.cell j;have C:=d.cell ((c.out k M A a).1.2.1);have R:=d.cell m;have J:=y.block _ _ (zq A (cl #[G o,V l w q] 101)) (.inr rfl);have c:=c_ 0 J;have c:=c_ 1 J;have a1:=B _ _ _ _ a (x.trans (zw.drew _ _));have c:=x.size;have c:W.heap.size+1+1<b.heap.size:=zN R;have Y:Hid (Calls pg 209 #[ag #[G o,V l w q]] b.drew fun e c=>∃t:WT,e= .returned (ag #[G t.b,V t.s.1 t.s.2.1 t.s.2.2])/\zY c (ag #[G t.b,V t.s.1 t.s.2.1 t.s.2.2]) (-z)/\Below b.drew.heap.size b.drew c):=by
   refine(zeC b.drew _ z (K.keep (x.trans (zw.drew _ _)))).mono ?_;rintro e c ⟨X,rfl,d,F⟩;obtain⟨t,rfl⟩:=d.shape;exact⟨t,rfl,d,F⟩
  have a0:Hid (∀(t:WT) (c:H),zY c (ag #[G t.b,V t.s.1 t.s.2.1 t.s.2.2]) (-z)->Below b.drew.heap.size b.drew c->∃y C w x,(Instr.yield n #[ag #[G t.b,V t.s.1 t.s.2.1 t.s.2.2]]).run pg c= .ok (.round n y C w x) c/\
   RoundIn (Fence.wide.inRound N) 0 pg n y C w x c fun e l=>∃o,e= .returned (G o)/\Hid ((o=true->Wr M b l/\∃q,(L (k+1) q l/\l.cell? ⟨W.heap.size,0,O⟩=E (.func (.yield n) #[] #[])/\l.cell? ⟨W.heap.size+1+1,0,O⟩=E (V f ts.length g)/\¬q W.heap.size/\¬q (W.heap.size+1+1))/\∀f,q f->M f\/A.heap.size<=f)/\(o=false->Wr M b l/\P k l))):=by
   intro t c L F;have n:=jG F;obtain⟨y,C,w,x,d,f⟩:=zd6 N 0 (Z.out k #[t.val] M c U ⟨t,z,hz,rfl,L⟩ (B _ _ _ _ a1 (zw.of_below F)));refine⟨y,C,w,x,d,f.mono ?_⟩;rintro e l ⟨o,rfl,b⟩;refine⟨o,rfl,fun h=>?_,fun h=>?_⟩
   ·obtain⟨g,q,F,l⟩:=b.out.1 h;have P:=n.size;refine⟨(Wr.of_below n).trans g,q,⟨F,g.cell (p:=⟨W.heap.size,0,O⟩) r (n.cell Q),g.cell (p:=⟨W.heap.size+1+1,0,O⟩) s (n.cell R),fun h=>?_,fun h=>?_⟩,fun X d=>?_⟩
    ·rcases l _ h with h|h
     ·exact r h
     ·omega
    ·rcases l _ h with h|h
     ·exact s h
     ·omega
    ·rcases l X d with h|h
     ·exact .inl h
     ·exact .inr om
   ·obtain⟨g,l⟩:=b.out.2 h;exact⟨(Wr.of_below n).trans g,l⟩
  clear J a j m K;gi_wp2;gi_region_with_o (first|(have g:=f;refine f.mono ?_;rintro e g ⟨o,rfl,b⟩)|(gi_at_call 209;refine(Zr N (zS.2 Y.out)).mono ?_;rintro e c ⟨⟨l,h,q,n⟩,rfl,g,e⟩;have F:=(jG e).cell Q;obtain⟨y,C,w,x,d,f⟩:=a0.out ⟨l,h,q,n⟩ c g e;simp only at d))
  all_goals clear f d
  all_goals gi_wp2
  all_goals (rename_i L;cases o<;>simp at L)
  all_goals first
   |exact⟨(b.out.2 rfl).1,rfl,(b.out.2 rfl).2⟩
   |exact b.out.1 rfl
 case done=>
  rintro d M A c ⟨a,j,m,r,s⟩ b;gi_wp2;refine qt b ?_;refine⟨_,qY rfl _ _ _,⟨_,rfl⟩,.inl ⟨M,?_⟩⟩;rw[<-D.out];exact B _ _ _ _ a (zw.putObj _ (by simp at c;omega) b rfl)
 case stop=>
  rintro d I k A c u ⟨rfl,a⟩ b;gi_wp2;refine qt b ?_;exact⟨_,qY rfl _ _ _,⟨_,rfl⟩,.inr ⟨k,by have:=D.out;omega,S _ _ _ a (zw.putObj _ (by simp at c;omega) b rfl)⟩⟩
end Go.Proofs.YtnhfdcfnojnofaaGreatDoor
