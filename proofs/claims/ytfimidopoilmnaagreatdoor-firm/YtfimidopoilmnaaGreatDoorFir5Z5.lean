import Derived.Test.YtfimidopoilmnaaGreatDoorFir5Z4
open Option renaming none->O,some->E
open Go.Value renaming slice->V,bool->G,string->gS,pointer->pn,tuple->tp,int->it,agg->ag
open Go.Obj renaming cells->cl
open Go renaming World->H
open Go.Proofs.Tryz renaming prog->pg
open Go.Proofs.Tryz
open Go.Ending renaming returned->Xa
open Go.IntKind renaming i64->Xb
open Go.Addr renaming mk->Xd
set_option linter.unusedSimpArgs false
set_option linter.unusedVariables false
set_option maxHeartbeats 2000000
set_option maxRecDepth 100000
namespace Go.Proofs.YtfimidopoilmnaaGreatDoor
section
open Go.RowKit
variable {B b k o:Nat}{l:List UInt8}{v:Value}{w w':H}{z:Int}
def fv (s:ByteArray)(a n:Nat):Nat:=if a<s.size then(s.data.toList.getD a 0).toNat%n else 0
def fa (s:ByteArray)(a:Nat):Nat:=if a<s.size then a+1 else a
theorem zqv(s:ByteArray)(g a n:Nat)(w:H)(hb:Zh w g (gS s) (it Xb (a:Nat)))(hs:s.size<=9223372036854775807)(b:a<=s.size)(c:0<n)(d:n<=1000):
 Calls pg 18 #[pn (E (Xd g 0 O)),it Xb (n:Nat)] w fun e w'=>e=Xa (it Xb (fv s a n:Nat))/\Zh w' g (gS s) (it Xb (fa s a:Nat))/\Wr (fun k=>k=g) w w':=by
 have h:=hb;obtain⟨c,d,b,f,i⟩:=h;by_cases h:a<s.size
 ·have j:(a:Int)<(s.size:Int):=om;have l:¬(n:Int)=0:=om;unfold fv fa;rw[zQ h,zQ h];have m:s.data.toList.getD a 0=s[a]:=by
   rw[zk,zg (by rw[js];exact h)];rfl
  have l:(s[a]).toNat<256:=(s[a]).toNat_lt;have l:((s[a]).toNat:Int).tmod (n:Int)=(((s[a]).toNat%n:Nat):Int):=by rw[Int.tmod_eq_emod_of_nonneg om];rfl
  have l:Zh (w.setCell (Xd g 1 O) (it Xb ((a:Int)+1))) g (gS s) (it Xb ((a:Int)+1)):=⟨by rw[zA _ _ _ _ (by intro e;injection e with _ o;omega)];exact c,zN _ _ _ d,by simpa using b,by simpa using f,by simpa using i⟩;have b:Wr (fun k=>k=g) w (w.setCell (Xd g 1 O) (it Xb ((a:Int)+1))):=Xq (T:=fun k=>k=g) (Xi _ w) (p:=(Xd g 1 O)) rfl _;have f:Zh (w.setCell (Xd g 1 O) (it Xb ((a:Int)+1))).drew.drew g (gS s) (it Xb ((a+1:Nat):Int)):=l;rw[m];generalize i:(s[a]).toNat=i at *;go_enter func18,ntmps18
  go_wp2;go_region_held3 (fun w'=>w'.cell? (Xd g 0 O)=E (gS s)/\w'.cell? (Xd g 1 O)=E (it Xb (a:Nat))) (first|exact⟨c,d⟩|go_keep) (fail)
  all_goals go_wp2
  all_goals go_region_held3 (fun w'=>w'.cell? (Xd g 0 O)=E (gS s)/\w'.cell? (Xd g 1 O)=E (it Xb (a:Nat))) (first|exact⟨c,d⟩|go_keep) (fail)
  all_goals go_wp2
  all_goals go_ret
  all_goals exact⟨zaQ sp,f,⟨b.os,b.tape,b.output,b.size,b.block⟩⟩
 ·have j:¬(a:Int)<(s.size:Int):=om;unfold fv fa;rw[zO h,zO h];go_enter func18,ntmps18
  go_wp2;go_region_held3 (fun w'=>w'.cell? (Xd g 0 O)=E (gS s)/\w'.cell? (Xd g 1 O)=E (it Xb (a:Nat))) (first|exact⟨c,d⟩|go_keep) (fail)
  all_goals go_wp2
  all_goals go_ret
  all_goals exact⟨rfl,hb,Xn _ _⟩
theorem Row.kept{off:Nat}{ds:List Nat}(h:Row w b off ds)(c:zn B w w'):Row w' b off ds:=
 fun i a=>c.cell (h i a)
theorem NatV.keep{n:Nat}(h:NatV w v n)(a:zn B w w'):NatV w' v n:=by
 obtain⟨d,⟨b,c,i,f,g⟩,e⟩:=h;refine⟨d,⟨b,c,i,f,fun f=>?_⟩,e⟩;obtain⟨b,off,c,d,e⟩:=g f;exact⟨b,off,c,zK d a.size,e.kept a⟩
theorem zy.keep{x:Value}(h:zy w x z)(e:zn B w w'):zy w' x z:=by
 obtain⟨b,v,a,c,d⟩:=h;exact⟨b,v,a,c.keep e,d⟩
theorem qK.same(h:qK w k)(a:w'.heap[k]? =w.heap[k]?):qK w' k:=by
 obtain⟨⟨o,d,c⟩,b⟩:=h;exact⟨⟨o,a.trans d,c⟩,fun p v c=>b p v ((Zj (w:=w) a).symm.trans c)⟩
theorem qK.keep(h:qK w k)(c:zn B w w'):qK w' k:=by
 obtain⟨o,a,b⟩:=h.1;exact h.same ((c.block k o a (.inr b)).trans a.symm)
theorem qK.wr{T:Nat->Prop}(h:qK w k)(c:Wr T w w')(b:¬T k):qK w' k:=by
 obtain⟨_,a,_⟩:=h.1;exact h.same (c.block k (zd.1 a).1 b)
theorem qK.setCell{p:Nat}{y:Value}(h:qK w k)(g:w.cell? (Xd k p O)=E y)(f:∀n,v≠it .u32 n):qK (w.setCell (Xd k p O) v) k:=by
 obtain⟨⟨o,c,_⟩,d⟩:=h;refine⟨?_,fun q u a n=>?_⟩
 ·obtain⟨e,b⟩:=zd.1 c;have c:k<(w.setCell (Xd k p O) v).heap.size:=by simpa[World.setCell]using e
  refine⟨_,qD c,?_⟩;simp only[World.setCell,Array.getElem_modify,zbu,b];cases o<;>simp_all[Obj.isCells]
 ·by_cases b:p=q
  ·subst b;rw[zN _ _ _ g]at a;cases a;exact f n
  ·rw[zA _ _ _ _ (by intro e;injection e with _ c;exact b c)]at a;exact d q u a n
theorem NatV.wr{T:Nat->Prop}{n:Nat}(h:NatV w v n)(e:Wr T w w')(m:∀k,T k->qK w k):NatV w' v n:=by
 obtain⟨a,⟨b,c,i,f,g⟩,d⟩:=h;refine⟨a,⟨b,c,i,f,fun c=>?_⟩,d⟩;obtain⟨b,off,i,l,d⟩:=g c;have j:¬T b:=by
  intro f;have g:=ZC.2 c;exact(m b f).2 _ _ (d 0 g) _ rfl
 exact⟨b,off,i,zK l e.size,fun i a=>e.cell j (d i a)⟩
theorem zy.wr{T:Nat->Prop}{x:Value}(h:zy w x z)(f:Wr T w w')(e:∀k,T k->qK w k):zy w' x z:=by
 obtain⟨b,v,a,c,d⟩:=h;exact⟨b,v,a,c.wr f e,d⟩
def Q3 (w:H)(b o:Nat)(z:Int):Prop:=
 ∃x ao l c,w.cell? (Xd b o O)=E (G x)/\w.cell? ⟨b,o+1,O⟩=E (V ao l c)/\zy w (ag #[G x,V ao l c]) z/\w.frozen? (Xd b o O)=false/\w.frozen? ⟨b,o+1,O⟩=false
theorem Q3.keep(h:Q3 w b o z)(a:zn B w w'):Q3 w' b o z:=by
 obtain⟨x,e,l,f,c,d,g,i,j⟩:=h;exact⟨x,e,l,f,a.cell c,a.cell d,g.keep a,(a.frozen c).trans i,(a.frozen d).trans j⟩
theorem Q3.lt(h:Q3 w b o z):b<w.heap.size:=by
 obtain⟨_,_,_,_,a,_⟩:=h;exact zw a
theorem Q3.put{z':Int}{x:Bool}{a:Option Addr}{l c:Nat}(h:Q3 w b o z)(m:qK w b)(q:zy w (ag #[G x,V a l c]) z'):
 Q3 ((w.setCell (Xd b o O) (G x)).setCell ⟨b,o+1,O⟩ (V a l c)) b o z':=by
 obtain⟨_,d,r,e,g,i,_,j,k⟩:=h;have f:(w.setCell (Xd b o O) (G x)).cell? ⟨b,o+1,O⟩=E (V d r e):=by
  rw[zA _ _ _ _ (by intro e;injection e with _ d;omega)];exact i
 refine⟨x,a,l,c,?_,zN _ _ _ f,?_,by simpa using j,by simpa using k⟩
 ·rw[zA _ _ _ _ (by intro e;injection e with _ d;omega)];exact zN _ _ _ g
 ·exact q.wr (T:=fun k=>k=b) (((Xi (fun k=>k=b) w).setCell (p:=(Xd b o O)) rfl _).setCell (p:=⟨b,o+1,O⟩) rfl _) (fun k e=>e▸m)
theorem Q3.other{p:Nat}{x:Bool}(h:Q3 w b p z)(j:qK w b)(a:p+1<o\/o+1<p):
 Q3 ((w.setCell (Xd b o O) (G x)).setCell ⟨b,o+1,O⟩ v) b p z:=by
 obtain⟨y,a,k,c,d,f,g,e,i⟩:=h;refine⟨y,a,k,c,?_,?_,?_,by simpa using e,by simpa using i⟩
 ·rw[zA _ _ _ _ (by intro e;injection e with _ a;omega),zA _ _ _ _ (by intro e;injection e with _ a;omega)];exact d
 ·rw[zA _ _ _ _ (by intro e;injection e with _ a;omega),zA _ _ _ _ (by intro e;injection e with _ a;omega)];exact f
 ·exact g.wr (T:=fun k=>k=b) (((Xi (fun k=>k=b) w).setCell (p:=(Xd b o O)) rfl _).setCell (p:=⟨b,o+1,O⟩) rfl _) (fun k e=>e▸j)
theorem fracParse2_frac(K:Nat)(hK:K<=1073741822)(hO:zfj K)(s:ByteArray)(m:Nat)(w:H)(hm:m<=1000000000)(hs:s.size<=9223372036854775807)(a b:List UInt8)(hcut:Lib.cut s.data.toList [47]=(a,b,true))(C:0<(Lib.trimPrefix a [45]).length)(D:(Lib.trimPrefix a [45]).length<=m)(F:Qm (Lib.trimPrefix a [45])=true)(I:0<b.length)(J:b.length<=m)(L:Qm b=true)(Q:ZE b≠0)(hz:ZE (Lib.trimPrefix a [45])<4294967296^K)(hn:ZE b<4294967296^K):
 Calls pg 30 #[gS s,it Xb (m:Nat)] w fun e w'=>∃x z,z=sg (Lib.hasPrefix a [45]) (ZE (Lib.trimPrefix a [45]))/\e=Xa (tp #[x,G true])/\Qa w' x (z/(Nat.gcd z.natAbs (ZE b):Int)) (ZE b/Nat.gcd z.natAbs (ZE b))/\Below w.heap.size w w':=by
 have R:QQ (w.alloc (cl #[G false,V O 0 0,V O 0 0] 77)) w.heap.size (G false) (V O 0 0) (V O 0 0):=QQ.new _ _ _ _ _;have k:Below w.heap.size w (w.alloc (cl #[G false,V O 0 0,V O 0 0] 77)):=(qf _ _).alloc (zh _) _;have p:=cut_any s (w.alloc (cl #[G false,V O 0 0,V O 0 0] 77)) hs;rw[hcut]at p;have a1:=zf p;have q:=fun W=>zj1 ⟨a.toArray⟩ m W hm (by simpa using C) (by simpa using D) (by simpa using F)
 have A:(ByteArray.mk a.toArray).data.toList=a:=sp;rw[A]at q;have HP:=zf q;have r:=fun W=>zlH ⟨b.toArray⟩ m W hm (by rw[zfg];exact I) (by rw[zfg];exact J) (by simpa using L)
 have B:(ByteArray.mk b.toArray).data.toList=b:=sp;rw[B]at r;have HQ:=zf r;have af:(sg (Lib.hasPrefix a [45]) (ZE (Lib.trimPrefix a [45]))).natAbs<4294967296^K:=by rw[sg_abs];exact hz
 generalize sg (Lib.hasPrefix a [45]) (ZE (Lib.trimPrefix a [45]))=z at *;generalize ZE b=n at *;clear p q r A B hcut C D F I J L hz hs;go_enter func30,ntmps30
 go_wp2_with fail
 refine a1.out.mono ?_;rintro e w1 ⟨rfl,q1,rfl⟩;go_wp2_with fail
 refine(HP.out _).mono ?_;rintro e i ⟨x,rfl,t,l⟩;obtain⟨d,c,h,g,rfl,ae,_⟩:=t.parts;have T:=(R.drewN q1).below l;have M:Below w.heap.size w i:=k.trans ((JJ l).mono k.size);have U:=T.alloc (cl #[G d,V c h g] 75);have Z:=t.alloc (cl #[G d,V c h g] 75);have j:Below w.heap.size w (i.alloc (cl #[G d,V c h g] 75)):=M.alloc M.size _;have S:Zh (i.alloc (cl #[G d,V c h g] 75)) i.heap.size (G d) (V c h g):=Xl _ _ _ _;clear l T R t ae k;go_wp2_with fail
 refine(HQ.out _).mono ?_;rintro e w3 ⟨_,rfl,Y,f⟩;have X:=U.below f;have a0:=Z.below f;have a4:=S.below f;have N:Below w.heap.size w w3:=j.trans (f.mono j.size);clear f U Z S j;obtain⟨i0,i1,i2,i3,i4⟩:=a4;go_wp2_with fail
 refine(jW _ _ _ Y Q).mono ?_;rintro e w4 ⟨rfl,rfl⟩;go_wp2_with fail
 refine(zie K hK hO _ _ _ z n a0 Y Q af hn).mono ?_;rintro e w5 ⟨_,rfl,hy,o⟩;obtain⟨b3,a5,l5,k5,a6,l6,k6,rfl,a8,a9,aa,ab,ad⟩:=hy.parts;have a7:=X.below o;have a3:Below w.heap.size w w5:=N.trans (o.mono N.size);obtain⟨u,v,y,_,_,_,_⟩:=a7;clear o X a0 i0 i1 i2 i3 i4 hy;go_wp2;exact zH (v:=tp #[ag #[G b3,V a5 l5 k5,V a6 l6 k6],G true]) (by simp[results,results30,go_sem,u,v,y]) rfl ⟨_,z,rfl,rfl,zbe a8 a9 aa ab ad u v y,
  ((a3.setCell sp _).setCell sp _).setCell sp _⟩
theorem fracParse2_whole(s:ByteArray)(m:Nat)(w:H)(hm:m<=1000000000)(hs:s.size<=9223372036854775807)(a:List UInt8)(hcut:Lib.cut s.data.toList [47]=(a,[],false))(t:0<(Lib.trimPrefix a [45]).length)(u:(Lib.trimPrefix a [45]).length<=m)(y:Qm (Lib.trimPrefix a [45])=true):
 Calls pg 30 #[gS s,it Xb (m:Nat)] w fun e w'=>∃x,e=Xa (tp #[x,G true])/\Qa w' x (sg (Lib.hasPrefix a [45]) (ZE (Lib.trimPrefix a [45]))) 1/\Below w.heap.size w w':=by
 have B:QQ (w.alloc (cl #[G false,V O 0 0,V O 0 0] 77)) w.heap.size (G false) (V O 0 0) (V O 0 0):=QQ.new _ _ _ _ _;have d:Below w.heap.size w (w.alloc (cl #[G false,V O 0 0,V O 0 0] 77)):=(qf _ _).alloc (zh _) _;have h:=cut_any s (w.alloc (cl #[G false,V O 0 0,V O 0 0] 77)) hs;rw[hcut]at h;have K:=zf h;have i:=fun W=>zj1 ⟨a.toArray⟩ m W hm (by simpa using t) (by simpa using u) (by simpa using y)
 have r:(ByteArray.mk a.toArray).data.toList=a:=sp;rw[r]at i;have L:=zf i;generalize sg (Lib.hasPrefix a [45]) (ZE (Lib.trimPrefix a [45]))=a1 at *;clear h i r hcut t u y hs;go_enter func30,ntmps30
 go_wp2_with fail
 refine K.out.mono ?_;rintro e w1 ⟨rfl,q1,rfl⟩;go_wp2_with fail
 refine(L.out _).mono ?_;rintro e J ⟨x,rfl,j,f⟩;obtain⟨c,b,l,k,rfl,a0,_⟩:=j.parts;have C:=(B.drewN q1).below f;have z:Below w.heap.size w J:=d.trans ((JJ f).mono d.size);have D:=C.alloc (cl #[G c,V b l k] 75);have F:=j.alloc (cl #[G c,V b l k] 75);have A:Below w.heap.size w (J.alloc (cl #[G c,V b l k] 75)):=z.alloc z.size _;clear f C B j a0 d;go_wp2_with fail
 refine(zjQ _ _ a1 F).mono ?_;rintro e w5 ⟨_,rfl,I,g⟩;obtain⟨Q,M,l5,k5,N,l6,k6,rfl,T,U,X,Y,Z⟩:=I.parts;have S:=D.below g;have R:Below w.heap.size w w5:=A.trans (g.mono A.size);obtain⟨o,p,q,_,_,_,_⟩:=S;clear g D F I;go_wp2;exact zH (v:=tp #[ag #[G Q,V M l5 k5,V N l6 k6],G true]) (by simp[results,results30,go_sem,o,p,q]) rfl ⟨_,rfl,zbe T U X Y Z o p q,
  ((R.setCell sp _).setCell sp _).setCell sp _⟩
theorem zlJ(s:ByteArray)(m:Nat)(w:H)(hm:m<=1099511627776)(hs:s.size<=9223372036854775807)(h:s.data.toList= []\/m<s.size\/Qm s.data.toList=false):
 Calls pg 59 #[gS s,it Xb (m:Nat)] w fun e w'=>e=Xa (tp #[V O 0 0,G false])/\w'=w:=by
 by_cases a:m<s.size
 ·have a:(m:Int)<(s.size:Int):=om;have a:((s.size:Int) == 0)=false:=ZN.2 om;clear h;go_enter func59,ntmps59
  go_wp2;go_ret2;exact⟨rfl,rfl⟩
 ·exact zmu s m w hm om h
theorem zk4(s:ByteArray)(m:Nat)(w:H)(hm:m<=1000000000)(hs:s.size<=9223372036854775807)(h:T.okD (Lib.trimPrefix s.data.toList [45]) m=false):
 Calls pg 57 #[gS s,it Xb (m:Nat)] w fun e w'=>∃b x l cap,e=Xa (tp #[ag #[G b,V x l cap],G false])/\Below w.heap.size w w':=by
 have o:Zh (w.alloc (cl #[G false,V O 0 0] 75)) w.heap.size (G false) (V O 0 0):=Xl _ _ _ _;have k:Below w.heap.size w (w.alloc (cl #[G false,V O 0 0] 75)):=(qf _ _).alloc (zh _) _;have c:=Tryz.strings_CutPrefix s ⟨#[45]⟩ (w.alloc (cl #[G false,V O 0 0] 75));have i:(ByteArray.mk #[45]).data.toList= [45]:=rfl;rw[i]at c;have I:(Lib.trimPrefix s.data.toList [45]).length<=s.size:=by
  rw[<-zdP s,Lib.trimPrefix];split
  ·simp
  ·exact zh _
 generalize Lib.trimPrefix s.data.toList [45]=d at *;generalize Lib.hasPrefix s.data.toList [45]=neg at *;have p:(ByteArray.mk d.toArray).data.toList= []\/m<(ByteArray.mk d.toArray).size\/Qm (ByteArray.mk d.toArray).data.toList=false:=by
  have e:(ByteArray.mk d.toArray).data.toList=d:=sp;rw[e,zfg];unfold T.okD at h;by_cases j:d= []
  ·exact Or.inl j
  ·by_cases A:d.length<=m
   ·rw[zbA j,zbA A,zaT,zaT]at h;exact Or.inr (Or.inr h)
   ·exact Or.inr (Or.inl om)
 have u:=zf (fun W=>zlJ ⟨d.toArray⟩ m W om (by rw[zfg];omega) p);have t:=zf c;clear c i p h;go_enter func57,ntmps57
 go_wp2_with fail
 refine t.out.mono ?_;rintro e J ⟨rfl,rfl⟩;go_wp2_with fail
 refine(u.out _).mono ?_;rintro e K ⟨rfl,rfl⟩;go_wp2_with fail
 refine(Jh _ _ _ _ (Xm _ _ _)).mono ?_;rintro e F ⟨_,rfl,D,a⟩;obtain⟨g,f,r,q,rfl,_,_⟩:=D.parts;have C:=o.below a;have B:=k.trans (a.mono k.size);obtain⟨y,z,_,_,_⟩:=C;clear a o;go_wp2;exact zH (v:=tp #[ag #[G g,V f r q],G false]) (by simp[results,results57,go_sem,y,z]) rfl ⟨g,f,r,q,rfl,(B.setCell sp _).setCell sp _⟩
theorem cut_cons{c:UInt8}(b:c≠47)(r:List UInt8):Lib.cut (c::r) [47]=(c::(Lib.cut r [47]).1,(Lib.cut r [47]).2.1,(Lib.cut r [47]).2.2):=by
 by_cases h:∃k,∃d:k<r.length,r[k]=47/\∀i (h:i<k),r[i]' om≠47
 ·obtain⟨k,d,a,e⟩:=h;rw[T.cut_here d a e];rw[T.cut_here (T:=c::r) (k:=k+1) so (by simpa using a) (by
   intro i a;cases i with
   |zero=>simpa using b
   |succ i=>simpa using e i om)]
  simp
 ·have d:∀i (h:i<r.length),r[i]≠47:=by
   intro i;induction i using Nat.strongRecOn with
   |_ i f=>exact fun a e=>h ⟨i,a,e,fun j e=>f j e om⟩
  rw[T.cut_not d];rw[T.cut_not (T:=c::r) (by
   intro i a;cases i with
   |zero=>simpa using b
   |succ i=>simpa using d i (by simpa using a))]
theorem cut_trim(L:List UInt8):Lib.cut (Lib.trimPrefix L [45]) [47]=(Lib.trimPrefix (Lib.cut L [47]).1 [45],(Lib.cut L [47]).2.1,(Lib.cut L [47]).2.2)/\Lib.hasPrefix L [45]=Lib.hasPrefix (Lib.cut L [47]).1 [45]:=by
 cases L with
 |nil=>exact⟨rfl,rfl⟩
 |cons c r=>
  by_cases a:c=45
  ·subst a;rw[cut_cons dc];simp[Lib.trimPrefix,Lib.hasPrefix]
  ·have b:Lib.hasPrefix (c::r) [45]=false:=by simp[Lib.hasPrefix,List.isPrefixOf,Qr a]
   have d:Lib.trimPrefix (c::r) [45]=c::r:=by rw[Lib.trimPrefix,b];rfl
   rw[d,b];have d:Lib.hasPrefix (Lib.cut (c::r) [47]).1 [45]=false:=by
    by_cases b:c=47
    ·rw[T.cut_here (T:=c::r) (k:=0) sp (by simpa using b) (by intro i c;omega)];rfl
    ·rw[cut_cons b];simp[Lib.hasPrefix,List.isPrefixOf,Qr a]
   refine⟨?_,d.symm⟩;rw[Lib.trimPrefix,d];rfl
theorem zoy{m:Nat}(h:T.okD l m=true):0<l.length/\l.length<=m/\Qm l=true:=by
 unfold T.okD at h;simp only[Qj,Z9]at h;exact⟨ZC.2 h.1,h.2.1,h.2.2⟩
theorem okD_not{m:Nat}(h:T.okD l m=false):(ByteArray.mk l.toArray).data.toList= []\/m<(ByteArray.mk l.toArray).size\/Qm (ByteArray.mk l.toArray).data.toList=false:=by
 have e:(ByteArray.mk l.toArray).data.toList=l:=sp;rw[e,zfg];unfold T.okD at h;by_cases a:l= []
 ·exact Or.inl a
 ·by_cases b:l.length<=m
  ·rw[zbA a,zbA b,zaT,zaT]at h;exact Or.inr (Or.inr h)
  ·exact Or.inr (Or.inl om)
theorem cut_len(L:List UInt8):(Lib.cut L [47]).1.length<=L.length/\(Lib.cut L [47]).2.1.length<=L.length:=by
 unfold Lib.cut;split
 ·refine⟨?_,?_⟩
  ·show(L.take _).length<=L.length
   rw[zX];omega
  ·show(L.drop _).length<=L.length
   rw[Za];omega
 ·simp
theorem QQ.same{g:Nat}(h:QQ w g (G false) (V O 0 0) (V O 0 0)):QQ (((w.setCell (Xd g 0 O) (G false)).setCell (Xd g 1 O) (V O 0 0)).setCell (Xd g 2 O) (V O 0 0)) g (G false) (V O 0 0) (V O 0 0):=T.QQ.stored h
theorem parse_no(s:ByteArray)(w:H)(hs:s.size<=9223372036854775807)(h:T.rOk s.data.toList=false):
 Calls pg 30 #[gS s,it Xb 40] w fun e w'=>∃b ao l cap a5 l' a6,e=Xa (tp #[ag #[G b,V ao l cap,V a5 l' a6],G false])/\Below w.heap.size w w':=by
 have u:QQ (w.alloc (cl #[G false,V O 0 0,V O 0 0] 77)) w.heap.size (G false) (V O 0 0) (V O 0 0):=QQ.new _ _ _ _ _;have d:Below w.heap.size w (w.alloc (cl #[G false,V O 0 0,V O 0 0] 77)):=(qf _ _).alloc (zh _) _;have N:=cut_any s (w.alloc (cl #[G false,V O 0 0,V O 0 0] 77)) hs;have a4:=cut_len s.data.toList;rw[zdP]at a4;unfold T.rOk T.rdOk at h;rw[(cut_trim s.data.toList).1]at h;generalize Lib.cut s.data.toList [47]=cc at *;obtain⟨g,b,pt⟩:=cc;simp only at h N a4;have I:=zf N;clear N;have k:(ByteArray.mk g.toArray).data.toList=g:=sp;have v:(ByteArray.mk b.toArray).data.toList=b:=sp;by_cases y:T.okD (Lib.trimPrefix g [45]) 40=true
 ·rw[y,zaT]at h;have aa:pt=true:=by
   cases pt with
   |true=>rfl
   |false=>simp at h
  subst aa;simp only[Bool.not_true,Bool.false_or]at h;obtain⟨p,q,r⟩:=zoy y;have Q:=fun W=>zj1 ⟨g.toArray⟩ 40 W om (by rw[k];exact p) (by rw[k];exact q) (by rw[k];exact r)
  rw[k]at Q;generalize sg (Lib.hasPrefix g [45]) (ZE (Lib.trimPrefix g [45]))=ad at *;have B:=zf Q;clear Q p q r y;by_cases x:T.okD b 40=true
  ·rw[x,zaT]at h;obtain⟨p,q,r⟩:=zoy x;have F:=fun W=>zlH ⟨b.toArray⟩ 40 W om (by rw[zfg];exact p) (by rw[zfg];exact q) (by rw[v];exact r)
   rw[v]at F;have a0:ZE b=0:=by
    by_cases e:ZE b=0
    ·exact e
    ·simp[e]at h
   rw[a0]at F;have J:=zf F;clear F p q r h a0 k v hs x;go_enter func30,ntmps30
   go_wp2_with fail
   refine I.out.mono ?_;rintro e w1 ⟨rfl,A,rfl⟩;go_wp2_with fail
   refine(B.out _).mono ?_;rintro e t ⟨ab,rfl,z,a⟩;obtain⟨j,i,o,m,rfl,R,a8⟩:=z.parts;have f:=(u.drewN A).below a;have c:Below w.heap.size w t:=d.trans ((JJ a).mono d.size);have D:=f.alloc (cl #[G j,V i o m] 75);have C:Below w.heap.size w (t.alloc (cl #[G j,V i o m] 75)):=c.alloc c.size _;clear a f u z R d;go_wp2_with fail
   refine(J.out _).mono ?_;rintro e w3 ⟨_,rfl,hv,M⟩;have a9:=D.below M;have a7:Below w.heap.size w w3:=C.trans (M.mono C.size);clear M D C;go_wp2_with fail
   refine(JR _ _ hv).mono ?_;rintro e w4 ⟨rfl,rfl⟩;obtain⟨Y,Z,c2,f0,f1,f2,g0⟩:=a9;go_wp2;exact zH (v:=tp #[ag #[G false,V O 0 0,V O 0 0],G false]) (by simp[results,results30,go_sem,Y,Z,c2]) rfl ⟨_,_,_,_,_,_,_,rfl,((a7.setCell sp _).setCell sp _).setCell sp _⟩
  ·have a1:T.okD b 40=false:=by simpa using x
   have J:=zf (fun W=>zlJ ⟨b.toArray⟩ 40 W om (by rw[zfg];omega) (okD_not a1));clear h k v hs x a1;go_enter func30,ntmps30
   go_wp2_with fail
   refine I.out.mono ?_;rintro e w1 ⟨rfl,A,rfl⟩;go_wp2_with fail
   refine(B.out _).mono ?_;rintro e t ⟨ab,rfl,z,a⟩;obtain⟨j,i,o,m,rfl,R,a8⟩:=z.parts;have f:=(u.drewN A).below a;have c:Below w.heap.size w t:=d.trans ((JJ a).mono d.size);have D:=f.alloc (cl #[G j,V i o m] 75);have C:Below w.heap.size w (t.alloc (cl #[G j,V i o m] 75)):=c.alloc c.size _;clear a u z R d;go_wp2_with fail
   refine(J.out _).mono ?_;rintro e w3 ⟨rfl,rfl⟩;have L:=f;obtain⟨d0,p,q,r,d4,d5,d6⟩:=L;obtain⟨Y,Z,c2,f0,f1,f2,g0⟩:=D;have K:=(QQ.same f).alloc (cl #[G j,V i o m] 75);obtain⟨S,U,X,m3,m4,m5,m6⟩:=K;go_wp2;exact zH (v:=tp #[ag #[G false,V O 0 0,V O 0 0],G false]) (by simp[results,results30,go_sem,S,U,X]) rfl ⟨_,_,_,_,_,_,_,rfl,(T.below_stored c (zh _) _ _ _).alloc (by have:=c.size;simp;omega) _⟩
 ·have a3:T.okD (Lib.trimPrefix g [45]) 40=false:=by simpa using y
  have B:=zf (fun W=>zk4 ⟨g.toArray⟩ 40 W om (by rw[zfg];omega) (by rw[k];exact a3));clear h k v hs y a3;go_enter func30,ntmps30
  go_wp2_with fail
  refine I.out.mono ?_;rintro e w1 ⟨rfl,A,rfl⟩;go_wp2_with fail
  refine(B.out _).mono ?_;rintro e t ⟨j,i,o,m,rfl,a⟩;have f:=(u.drewN A).below a;have c:Below w.heap.size w t:=d.trans ((JJ a).mono d.size);have L:=f;obtain⟨d0,p,q,r,d4,d5,d6⟩:=L;have K:=(QQ.same f).alloc (cl #[G j,V i o m] 75);obtain⟨S,U,X,m3,m4,m5,m6⟩:=K;clear a u d;go_wp2;exact zH (v:=tp #[ag #[G false,V O 0 0,V O 0 0],G false]) (by simp[results,results30,go_sem,S,U,X]) rfl ⟨_,_,_,_,_,_,_,rfl,(T.below_stored c (zh _) _ _ _).alloc (by have:=c.size;simp;omega) _⟩
theorem parse_yes(s:ByteArray)(w:H)(hs:s.size<=9223372036854775807)(h:T.rOk s.data.toList=true):
 Calls pg 30 #[gS s,it Xb 40] w fun e w'=>∃x,e=Xa (tp #[x,G true])/\Qa w' x (T.rP s.data.toList) (T.rQ s.data.toList)/\Below w.heap.size w w':=by
 have h0:=h;obtain⟨hA,hB⟩:=cut_trim s.data.toList;have hbd:=T.rd_parts h0;unfold T.rOk T.rdOk at h;unfold T.rP T.rQ;unfold T.rA T.rD T.rdDown at hbd⊢;rw[hA]at h hbd⊢;rw[hB];obtain⟨⟨a,b,pt⟩,hcut⟩:∃cc,Lib.cut s.data.toList [47]=cc:=⟨_,rfl⟩;rw[hcut]at h hbd⊢;simp only at h hbd⊢;simp only[Qj]at h;obtain⟨hd,h2⟩:=h;obtain⟨d1,d2,d3⟩:=zoy hd;cases pt with
 |false=>
  have hb:b= []:=by
   have hc:=hcut;unfold Lib.cut at hc;split at hc
   ·simp at hc
   ·simp only[Prod.mk.injEq]at hc;exact hc.2.1.symm
  subst hb;refine(fracParse2_whole s 40 w om hs a hcut d1 d2 d3).mono ?_;rintro e w' ⟨x,rfl,hx,hbw⟩;refine⟨x,rfl,?_,hbw⟩;simp only[za3,zaK,Nat.gcd_one_right,zdF,Int.ediv_one,Nat.div_one];exact hx
 |true=>
  simp only[Bool.not_true,Bool.false_or,Qj,Z9]at h2;obtain⟨hb,hb0⟩:=h2;obtain⟨f1,f2,f3⟩:=zoy hb;simp only[zbu]at hbd⊢;obtain⟨K,hK,hO,hz,hn⟩:∃K,K<=1073741822/\zfj K/\ZE (Lib.trimPrefix a [45])<4294967296^K/\ZE b<4294967296^K:=⟨10,om,overOK_ten,ten40 hbd.1,ten40 hbd.2.1⟩;refine(fracParse2_frac K hK hO s 40 w om hs a b hcut d1 d2 d3 f1 f2 f3 hb0 hz hn).mono ?_;rintro e w' ⟨x,z,hzz,rfl,hx,hbw⟩;refine⟨x,rfl,?_,hbw⟩;have hab:z.natAbs=ZE (Lib.trimPrefix a [45]):=by rw[hzz,sg_abs]
  rw[hab,hzz]at hx;exact hx
theorem zoz(s:ByteArray)(w:H):
 Calls pg 195 #[gS s,gS ⟨#[10]⟩] w fun e w'=>e=Xa (it Xb (Lib.index s.data.toList [10]))/\w'=w:=by
 by_cases h:s=⟨#[10]⟩
 ·subst h;go_enter func195,ntmps195
  go_wp2;go_ret;exact⟨rfl,rfl⟩
 ·have a:(([10]:List UInt8) == s.toList)=false:=by
   rw[ZN,zck];intro e;exact h (by obtain⟨⟨_⟩⟩:=s;simp at e;rw[<-e])
  have a:=zf (zi1 s.data.toList 10);go_enter func195,ntmps195
  go_wp2_with fail
  refine(Tryz.stringslite_IndexByte s 10 _).mono ?_;rintro e b ⟨rfl,rfl⟩;go_wp2;go_ret;exact⟨zaQ a.out,rfl⟩
theorem zlK(l:List UInt8):-1<=Lib.index l [10]/\Lib.index l [10]<l.length\/Lib.index l [10]=-1:=by
 by_cases h:Lib.index l [10]=-1
 ·exact Or.inr h
 ·left
  refine⟨Lib.index_ge _ _,?_⟩;rw[<-zi1]at h⊢;have a:=Lib.indexByte_ge l 10;obtain⟨o,ho⟩:∃o:Nat,Lib.indexByte l 10=(o:Int):=⟨(Lib.indexByte l 10).toNat,om⟩;rw[ho];have a:=(Lib.indexByte_some ho).1;have b:=(zo.1 a).1;omega
theorem zk5(s:ByteArray)(w:H)(hs:s.size<=9223372036854775807):
 Calls pg 108 #[gS s,gS ⟨#[10]⟩] w fun e w'=>e=Xa (tp #[gS ⟨(Lib.cut s.data.toList [10]).1.toArray⟩,gS ⟨(Lib.cut s.data.toList [10]).2.1.toArray⟩,G (Lib.cut s.data.toList [10]).2.2])/\∃n,w'=w.drewN n:=by
 have a:=zlK s.data.toList;rw[zdP]at a;have a:=zdP s;have d:=zf (zoz s);have c:Hid (Lib.cut s.data.toList [10]=if 0<=Lib.index s.data.toList [10]then(s.data.toList.take (Lib.index s.data.toList [10]).toNat,s.data.toList.drop ((Lib.index s.data.toList [10]).toNat+1),true)else(s.data.toList,[],false)):=by rw[Hid,Lib.cut];rfl
 generalize Lib.index s.data.toList [10]=z at *;by_cases g:0<=z
 ·obtain⟨k,rfl⟩:∃k:Nat,z=(k:Int):=⟨z.toNat,om⟩;have a:=c.out;rw[zQ g,jT]at a;have b:=zf a;have f:ByteArray.mk (s.data.toList.take k).toArray=s.extract 0 k:=(T.ba_of (by rw[zdm,Q2,zdO])).symm;have j:ByteArray.mk (s.data.toList.drop (k+1)).toArray=s.extract (k+1) s.size:=(T.ba_of (by rw[Lib.extract_to_end])).symm;have h:=zf f;have i:=zf j;have j:k<s.size:=om;go_enter func108,ntmps108
  go_wp2_with fail
  refine(d.out _).mono ?_;rintro e j ⟨rfl,rfl⟩;go_wp2;go_region
  all_goals go_wp2
  all_goals exact zH (v:=tp #[gS (s.extract 0 k),gS (s.extract (k+1) s.size),G true]) (by simp[results,results108,go_sem]) rfl ⟨by rw[b.out,h.out,i.out],1,rfl⟩
 ·obtain rfl:z=-1:=om;have a:=c.out;rw[zO g]at a;have b:=zf a;have f:ByteArray.mk s.data.toList.toArray=s:=rfl;go_enter func108,ntmps108
  go_wp2_with fail
  refine(d.out _).mono ?_;rintro e j ⟨rfl,rfl⟩;go_wp2;exact zH (v:=tp #[gS s,gS ⟨#[]⟩,G false]) (by simp[results,results108,go_sem]) rfl ⟨by rw[b.out],0,rfl⟩
theorem zrN(s:ByteArray)(w:H)(hs:s.size<=9223372036854775807):
 Calls pg 56 #[gS s,gS ⟨#[10]⟩] w fun e w'=>e=Xa (tp #[gS ⟨(Lib.cut s.data.toList [10]).1.toArray⟩,gS ⟨(Lib.cut s.data.toList [10]).2.1.toArray⟩,G (Lib.cut s.data.toList [10]).2.2])/\∃n,w'=w.drewN n:=by
 have a:=zf (fun W=>zk5 s W hs);generalize Lib.cut s.data.toList [10]=c at *;go_enter func56,ntmps56
 go_wp2_with fail
 refine(a.out _).mono ?_;rintro e a ⟨rfl,q,rfl⟩;go_wp2;exact zH (v:=tp #[gS ⟨c.1.toArray⟩,gS ⟨c.2.1.toArray⟩,G c.2.2]) (by simp[results,results56,go_sem]) rfl ⟨rfl,q,rfl⟩
theorem zmy(s:ByteArray)(w:H):
 Calls pg 195 #[gS s,gS ⟨#[32]⟩] w fun e w'=>e=Xa (it Xb (Lib.index s.data.toList [32]))/\w'=w:=by
 by_cases h:s=⟨#[32]⟩
 ·subst h;go_enter func195,ntmps195
  go_wp2;go_ret;exact⟨rfl,rfl⟩
 ·have a:(([32]:List UInt8) == s.toList)=false:=by
   rw[ZN,zck];intro e;exact h (by obtain⟨⟨_⟩⟩:=s;simp at e;rw[<-e])
  have a:=zf (zi1 s.data.toList 32);go_enter func195,ntmps195
  go_wp2_with fail
  refine(Tryz.stringslite_IndexByte s 32 _).mono ?_;rintro e b ⟨rfl,rfl⟩;go_wp2;go_ret;exact⟨zaQ a.out,rfl⟩
theorem zj5(l:List UInt8):-1<=Lib.index l [32]/\Lib.index l [32]<l.length\/Lib.index l [32]=-1:=by
 by_cases h:Lib.index l [32]=-1
 ·exact Or.inr h
 ·left
  refine⟨Lib.index_ge _ _,?_⟩;rw[<-zi1]at h⊢;have a:=Lib.indexByte_ge l 32;obtain⟨o,ho⟩:∃o:Nat,Lib.indexByte l 32=(o:Int):=⟨(Lib.indexByte l 32).toNat,om⟩;rw[ho];have a:=(Lib.indexByte_some ho).1;have b:=(zo.1 a).1;omega
theorem zjb(s:ByteArray)(w:H)(hs:s.size<=9223372036854775807):
 Calls pg 108 #[gS s,gS ⟨#[32]⟩] w fun e w'=>e=Xa (tp #[gS ⟨(Lib.cut s.data.toList [32]).1.toArray⟩,gS ⟨(Lib.cut s.data.toList [32]).2.1.toArray⟩,G (Lib.cut s.data.toList [32]).2.2])/\∃n,w'=w.drewN n:=by
 have a:=zj5 s.data.toList;rw[zdP]at a;have a:=zdP s;have d:=zf (zmy s);have c:Hid (Lib.cut s.data.toList [32]=if 0<=Lib.index s.data.toList [32]then(s.data.toList.take (Lib.index s.data.toList [32]).toNat,s.data.toList.drop ((Lib.index s.data.toList [32]).toNat+1),true)else(s.data.toList,[],false)):=by rw[Hid,Lib.cut];rfl
 generalize Lib.index s.data.toList [32]=z at *;by_cases g:0<=z
 ·obtain⟨k,rfl⟩:∃k:Nat,z=(k:Int):=⟨z.toNat,om⟩;have a:=c.out;rw[zQ g,jT]at a;have b:=zf a;have f:ByteArray.mk (s.data.toList.take k).toArray=s.extract 0 k:=(T.ba_of (by rw[zdm,Q2,zdO])).symm;have j:ByteArray.mk (s.data.toList.drop (k+1)).toArray=s.extract (k+1) s.size:=(T.ba_of (by rw[Lib.extract_to_end])).symm;have h:=zf f;have i:=zf j;have j:k<s.size:=om;go_enter func108,ntmps108
  go_wp2_with fail
  refine(d.out _).mono ?_;rintro e j ⟨rfl,rfl⟩;go_wp2;go_region
  all_goals go_wp2
  all_goals exact zH (v:=tp #[gS (s.extract 0 k),gS (s.extract (k+1) s.size),G true]) (by simp[results,results108,go_sem]) rfl ⟨by rw[b.out,h.out,i.out],1,rfl⟩
 ·obtain rfl:z=-1:=om;have a:=c.out;rw[zO g]at a;have b:=zf a;have f:ByteArray.mk s.data.toList.toArray=s:=rfl;go_enter func108,ntmps108
  go_wp2_with fail
  refine(d.out _).mono ?_;rintro e j ⟨rfl,rfl⟩;go_wp2;exact zH (v:=tp #[gS s,gS ⟨#[]⟩,G false]) (by simp[results,results108,go_sem]) rfl ⟨by rw[b.out],0,rfl⟩
theorem zkv(s:ByteArray)(w:H)(hs:s.size<=9223372036854775807):
 Calls pg 56 #[gS s,gS ⟨#[32]⟩] w fun e w'=>e=Xa (tp #[gS ⟨(Lib.cut s.data.toList [32]).1.toArray⟩,gS ⟨(Lib.cut s.data.toList [32]).2.1.toArray⟩,G (Lib.cut s.data.toList [32]).2.2])/\∃n,w'=w.drewN n:=by
 have a:=zf (fun W=>zjb s W hs);generalize Lib.cut s.data.toList [32]=c at *;go_enter func56,ntmps56
 go_wp2_with fail
 refine(a.out _).mono ?_;rintro e a ⟨rfl,q,rfl⟩;go_wp2;exact zH (v:=tp #[gS ⟨c.1.toArray⟩,gS ⟨c.2.1.toArray⟩,G c.2.2]) (by simp[results,results56,go_sem]) rfl ⟨rfl,q,rfl⟩
attribute [local go_sem] zD
def lineV (k:Nat)(x:List UInt8×Bool)(last:Bool):Array Value:=#[ag #[it Xb ((k+1:Nat):Int),gS ⟨x.1.toArray⟩,G x.2,G last]]
def zb7:Nat->List (List UInt8×Bool)->List (Array Value)
 |_,[]=> []
 |k,x::r=>lineV k x r.isEmpty::zb7 (k+1) r
theorem zlL{f:Nat}(h:l.length<=f):(JA f l).isEmpty=l.isEmpty:=by
 by_cases a:l= []
 ·subst a;rw[zbN];simp
 ·obtain⟨f,rfl⟩:∃b,f=b+1:=⟨f-1,by have:=ZC.2 a;omega⟩;rw[JA,zO a];simp[a]
theorem zjc(k:Nat)(l:List (List UInt8×Bool)):(zb7 k l).length=l.length:=by
 induction l generalizing k with
 |nil=>rfl
 |cons x r a=>simp[zb7,a]
theorem of_seq(s:List UInt8)(hs:s.length<=1000000000)(a:Nat):
 SeqL pg 125 #[pn (E (Xd a 0 O))] (zb7 0 (QW s)) (fun W=>W.cell? (Xd a 0 O)=E (gS ⟨s.toArray⟩)):=by
 obtain⟨b,hvs⟩:∃b,zb7 0 (QW s)=b:=⟨_,rfl⟩;rw[hvs];have e:=zf hvs;intro m J a c W t a a f d;have g:=(a 0 c W d).1;have o:=zf f;refine zcW func125 ntmps125 (h:=?_);gi_wp2;gi_loopw [3,4] (fun r n wr=>∃(f k:Nat) (M:Nat->Prop) (a:List UInt8),r=gS ⟨a.toArray⟩/\n=it Xb ((k+1:Nat):Int)/\a.length<=f/\a.length<=1000000000/\k<=b.length/\b.length<=1000000000/\Hid (b.drop k=zb7 k (JA f a))/\J k M wr)
  (fun r _ _=>zhl r)
 case atStart=>exact⟨s.length,0,c,s,rfl,rfl,zh _,hs,qo _,by rw[<-e.out,zjc];exact zF (zgA _ s).1 hs,e.out.symm,d⟩
 case round=>
  obtain⟨f,k,M,a,rfl,rfl,_,_,_,u,g,j⟩:=hrel;by_cases e:a= []
  ·subst e;gi_wp2;go_end0
   have d:=g.out;rw[zbN]at d;have l:=List.drop_eq_nil_iff.1 d;obtain rfl:k=b.length:=om;exact⟨⟨_,rfl⟩,.inl ⟨M,j⟩⟩
  ·have c:a.isEmpty=false:=by simpa using e
   obtain⟨f,rfl⟩:∃c,f=c+1:=⟨f-1,by have:=ZC.2 e;omega⟩;obtain⟨c,hcut⟩:∃c,Lib.cut a [10]=c:=⟨_,rfl⟩;have i:=zf hcut;gi_wp2;refine⟨trivial,rfl,(zq.2 (zrN _ _ (by simp[ByteArray.size];omega))).mono ?_⟩;simp only[];rw[i.out];rintro q q ⟨rfl,q,rfl⟩;gi_wp2;have r:Below wr.heap.size wr (((((wr.alloc (cl #[it Xb ((k:Int)+1),gS ⟨#[]⟩,G false,G false] 158)).drewN q).setCell (Xd wr.heap.size 1 O) (gS ⟨c.1.toArray⟩)).setCell (Xd wr.heap.size 2 O) (G c.2.2)).setCell (Xd wr.heap.size 3 O) (G c.2.1.isEmpty)):=
    (((Below.drawn ((qf _ wr).alloc (zh _) _) q).setCell (p:=(Xd wr.heap.size 1 O)) (zh _) _).setCell (p:=(Xd wr.heap.size 2 O)) (zh _) _).setCell (p:=(Xd wr.heap.size 3 O)) (zh _) _
   have d:=g.out;have g:=i.out;rw[JA,zO e,g,zb7]at d;have i:b[k]? =E (lineV k (c.1,c.2.2) (JA f c.2.1).isEmpty):=by
    have:=qm (fun m=>m[0]?) d;simpa using this
   have q:b.drop (k+1)=zb7 (k+1) (JA f c.2.1):=by
    have:=qm List.tail d;simpa using this
   have l:=(zo.1 i).1;have m:=zf q;have d:=zdk 10 a;rw[g]at d;have b:c.2.1.length<a.length:=by
    by_cases b:c.2.2=true
    ·rw[zQ b]at d;omega
    ·have:=zjU (c:=10) (l:=a) (by rw[g];simpa using b);rw[g]at this;rw[this];exact ZC.2 e
   rw[zlL om]at i;refine jr (o.out k _ _ _ i (t _ _ _ _ j (zn.of_below r))) ?_ ?_
   ·rintro d ⟨_,b,a,_⟩;gi_wp2;go_roundw
    case rel=>exact⟨f,k+1,b,c.2.1,rfl,sp,om,om,om,u,m,a⟩
    case measure=>simp[zhl,ByteArray.size];omega
   ·intro d a;gi_wp2;refine zH (qI rfl _ _ _) rfl ?_;exact⟨⟨_,rfl⟩,.inr ⟨k,l,a.2⟩⟩
def bval:Value->Nat|G true=>1|_=>0
theorem zqw(l:List UInt8):(ByteArray.mk l.toArray).size=l.length:=by simp[ByteArray.size]
def zgF (x:List UInt8):Array Value:=#[gS ⟨x.toArray⟩]
theorem zoA(s:List UInt8)(hs:s.length<=1000000000)(t:Nat):
 SeqL pg 291 #[pn (E (Xd t 0 O))] ((Zb s).map zgF) (fun W=>W.cell? (Xd t 0 O)=E (gS ⟨s.toArray⟩)):=by
 obtain⟨b,hvs⟩:∃b,(Zb s).map zgF=b:=⟨_,rfl⟩;rw[hvs];have a2:=zf hvs;intro A J Jx l W v a4 T U u;have hc:=(T 0 l W u).1;have F:=zf U;have C:Hid (∃c,Lib.cut s [32]=c):=⟨_,rfl⟩;obtain⟨L,X⟩:=C.out;have o:=zf X;refine zcW func291 ntmps291 (h:=?_);gi_wp2;refine⟨trivial,rfl,(zq.2 (zkv _ _ (by simp[ByteArray.size];omega))).mono ?_⟩;simp only[];rw[o.out];rintro N w1 ⟨rfl,q,rfl⟩;gi_wp2;have a0:=v _ _ _ _ u (zn.drewN _ _ q);gi_loopw [3,4,5] (fun K m c wr=>∃(f k:Nat) (M:Nat->Prop) (e:List UInt8) (d:List UInt8×List UInt8×Bool),K=gS ⟨d.1.toArray⟩/\m=gS ⟨d.2.1.toArray⟩/\c=G d.2.2/\Hid (Lib.cut e [32]=d)/\e.length<=f/\e.length<=1000000000/\Hid (b.drop k=(zaD (f+1) e).map zgF)/\J k M wr)
  (fun _ m c _=>zhl m+bval c)
 case atStart=>exact⟨s.length,0,l,s,L,rfl,rfl,rfl,o,zh _,hs,a2.out.symm,a0⟩
 case round=>
  obtain⟨f,k,M,e,d,rfl,rfl,rfl,g,_,_,D,hj⟩:=hrel;have a:=D.out;have x:=g.out;rw[zaD,x,Zk]at a;have z:b[k]? =E (zgF d.1):=by
   have:=qm (fun A=>A[0]?) a;simpa using this
  have Y:b.drop (k+1)=(if d.2.2=true then zaD f d.2.1 else []).map zgF:=by
   have:=qm List.tail a;simpa using this
  have a1:=(zo.1 z).1;have p:=zf Y;have y:=zdk 32 e;rw[x]at y;gi_wp2;refine jr (F.out k _ _ _ z hj) ?_ ?_
  ·rintro I ⟨_,r,j,_⟩;by_cases i:d.2.2=true
   ·rw[zQ i]at y;obtain⟨f,rfl⟩:∃S,f=S+1:=⟨f-1,om⟩;have a:=p.out;rw[zQ i]at a;have B:=zf a;obtain⟨c,hcut⟩:∃c,Lib.cut d.2.1 [32]=c:=⟨_,rfl⟩;have g:=zf hcut;gi_wp2;refine⟨trivial,rfl,(zq.2 (zkv _ _ (by simp[ByteArray.size];omega))).mono ?_⟩;simp only[];rw[g.out];rintro N w1 ⟨rfl,q,rfl⟩;gi_wp2;go_roundw
    case rel=>exact⟨f,k+1,r,d.2.1,c,rfl,rfl,rfl,g,om,om,B,v _ _ _ _ j (zn.drewN _ _ q)⟩
    case measure=>
     have:=zdk 32 d.2.1;rw[g.out]at this;have Q:bval (G c.2.2)=if c.2.2=true then 1 else 0:=by cases c.2.2<;>rfl
     have R:bval (G d.2.2)=1:=by rw[i];rfl
     simp[zhl,Q,R,zqw];omega
   ·have a3:d.2.2=false:=by simpa using i
    gi_wp2;go_end0
    have a:=p.out;rw[zO i]at a;have hl:=List.drop_eq_nil_iff.1 (by simpa using a);have Z:k+1=b.length:=om;exact⟨⟨_,rfl⟩,.inl ⟨r,Z▸j⟩⟩
  ·intro I j;gi_wp2;go_end0
   exact⟨⟨_,rfl⟩,.inr ⟨k,a1,j.2⟩⟩
theorem of_mk(s:ByteArray)(w:H):
 Calls pg 65 #[gS s] w fun e w'=>e=Xa (.func (.func 125) #[] #[pn (E (Xd w.heap.size 0 O))])/\w'=w.alloc (cl #[gS s] 9):=by
 go_enter func65,ntmps65
 go_wp2;go_ret;exact⟨rfl,rfl⟩
theorem zqx(s:ByteArray)(w:H):
 Calls pg 249 #[gS s] w fun e w'=>e=Xa (.func (.func 291) #[] #[pn (E (Xd w.heap.size 0 O))])/\w'=w.alloc (cl #[gS s] 9):=by
 go_enter func249,ntmps249
 go_wp2;go_ret;exact⟨rfl,rfl⟩
end

section
open Go.RowKit
theorem zqy {z:Int}{n:Nat}(h:0<=z):(z%(n:Int)).toNat=z.natAbs%n:=by
 obtain⟨_,rfl⟩:=Int.eq_ofNat_of_zero_le h;rw[<-Int.natCast_emod];rfl
theorem zqz {z:Int}{n:Nat}(a:n≠0)(h:z<0):(z%(n:Int)).toNat=if z.natAbs%n=0 then 0 else n-z.natAbs%n:=by
 have hm:=Jz z.natAbs n;have a:=Z0 z.natAbs (show 0<n by omega);generalize z.natAbs/n=q at hm;generalize a:z.natAbs%n=r at *;have b:z=-((n:Int)*q+r):=by
  have a:(((n*q+r:Nat)):Int)=(n:Int)*q+r:=sp;omega
 by_cases a:r=0
 ·rw[zQ a,b,a];have:-((n:Int)*q+(0:Nat))=(n:Int)*(-q):=by grind
  rw[this,zcy];rfl
 ·rw[zO a,b];have:-((n:Int)*q+r)=((n:Int)-r)+(n:Int)*(-q-1):=by grind
  rw[this,Int.add_mul_emod_self_left,Int.emod_eq_of_lt om om];omega
theorem zho (K:Nat)(a:K<=1073741822)(d:zfj K)(w:H)(x v:Value)(z:Int)(n:Nat)(h:zy w x z)(k:NatV w v n)(o:n≠0)(q:z.natAbs<4294967296^K)(g:n<4294967296^K):
 Calls pg 160 #[x,v] w fun e w'=>∃s,e=Xa s/\NatV w' s (z%(n:Int)).toNat/\Below w.heap.size w w':=by
 obtain⟨a,b,l,c,rfl,p,f⟩:=h.parts;have m:=Xl w (G a) (V b l c) 75;have i:Below w.heap.size w (w.alloc (cl #[G a,V b l c] 75)):=(qf _ _).alloc (zh _) _;have j:z.natAbs%n<n:=Z0 _ om;go_enter func160,ntmps160
 go_wp2_with fail
 refine(d _ _ _ z.natAbs n (p.alloc _) (k.alloc _) q g).mono ?_;rintro e l ⟨s,r,rfl,_,b,d⟩;obtain⟨_,_,_,_,_⟩:=m.below d;have c:=i.trans (d.mono i.size);clear d;cases a with
 |false=>
  have d:0<=z:=by have:=f.out;simp at this;omega
  have a:=zf (zqy (n:=n) d);go_wp2;exact zH (v:=r) (by simp[results,results160,go_sem]) rfl ⟨r,rfl,by rw[a.out];exact b,c⟩
 |true=>
  have d:z<0:=by have:=f.out;simp at this;omega
  have a:=zqz o d;by_cases d:z.natAbs%n=0
  ·rw[zQ d]at a;have f:=zf a;clear a;rw[d]at b;go_wp2_with fail
   refine(JR _ _ b).mono ?_;rintro e i ⟨rfl,rfl⟩;go_wp2;exact zH (v:=r) (by simp[results,results160,go_sem]) rfl ⟨r,rfl,by rw[f.out];exact b,c⟩
  ·rw[zO d]at a;have f:=zf a;clear a;go_wp2_with fail
   refine(jW _ _ _ b d).mono ?_;rintro e i ⟨rfl,rfl⟩;go_wp2_with fail
   refine(zhd _ _ _ n (z.natAbs%n) K (k.below c) b g (zbr j g) om).mono ?_;rintro e a ⟨y,rfl,b,a⟩;go_wp2;exact zH (v:=y) (by simp[results,results160,go_sem]) rfl ⟨y,rfl,by rw[f.out];simpa[Nat.sub_eq_zero_of_le (zcw j)]using b,c.trans (a.mono c.size)⟩
section

variable {P:Program} (w:World)
theorem zoB (base:Nat)(t u ty e:TypeId)(i:TypeInfo)(ht:P.underlying t=some (.slice e))(hu:P.underlying u=some .string)(hi:P.info? e=some i)(hz:i.zero=some (.int .u8 0))
 (hsize:i.size=1) (hby:i.bytes=1) (v:Value) (n:Nat) (xs:List Value) (hown:w.ownsRowF base e 1 v n xs) (s:ByteArray)
 (h63:n+s.size<=maxLen) (hbytes:n+s.size<=140737488355328) (hn4:v= .slice none 0 0->s.size=0->∀v' w',(Builtin.append_ #[t,u] ty #[v,.string s]).run P w= .ok v' w'->v'= .slice none 0 0) {v':Value} {w':World}
 (hr:(Builtin.append_ #[t,u] ty #[v,.string s]).run P w= .ok v' w'):∀g,v'.ownBlock=some g->v.ownBlock=some g\/g=w.heap.size:=by
 intro g' hg';have hsmall:n+s.size<=9223372036854775807:=by simp only[maxLen]at h63;omega
 rcases hown.2 with ⟨rfl,rfl⟩|⟨g,cap,cur,fz,rfl,hbg,hg,hfz,hnc,hcm,hcs,htake⟩
 ·by_cases h0:s.size=0
  ·rw[hn4 rfl h0 v' w' hr]at hg';cases hg'
  ·have hr2:=run_append_nil_string (P:=P) w t u ty e i (.int .u8 0) ht hu hi hz s (by omega) (by omega) (by rw[hby];omega);rw[hr2]at hr;simp only[J1]at hr;obtain⟨rfl,rfl⟩:=hr;simp[Value.ownBlock]at hg';exact Or.inr hg'.symm
 ·have hxl:xs.length=n:=by simpa using hown.1
  by_cases hroom:n+s.size<=cap
  ·have hcs':cur.size=cap:=by simpa using hcs
   have hr2:=Lib.run_append_room_stringF (P:=P) w t u ty e i ht hu hi hsize g n cap cur fz hg (by simpa using hfz) s hroom (by omega);rw[hr2]at hr;simp only[J1]at hr;obtain⟨rfl,rfl⟩:=hr;exact Or.inl hg'
  ·have holds:∀j u,xs[j]? =some u->w.cell? ((⟨g,0,none⟩:Addr).add j)=some u:=hown.cells (g:=g) rfl;have hr2:=Lib.run_append_grow_string (P:=P) w t u ty e i (.int .u8 0) ht hu hi hz ⟨g,0,none⟩ n cap xs (by rw[hsize];simpa using hxl) holds s (by omega) (by omega) (by rw[hby];exact growslice_fits (by omega) (by omega));rw[hr2]at hr;simp only[J1]at hr;obtain⟨rfl,rfl⟩:=hr;simp[Value.ownBlock]at hg';exact Or.inr hg'.symm
theorem zfC {ops:Array Oper}{rest:List Oper}{o:Oper}{a:Act}{Q:Exit->Act->World->Prop}(hgd:o.guard=none)(sl x:Operand)(t u:TypeId)
 (ho:o.op= .call { callee:= .builtin .append,args:=#[sl,x],argTypes:=#[t,u] })
 (base:Nat) (e:TypeId) (i:TypeInfo) (ht:P.underlying t=some (.slice e)) (hu:P.underlying u=some .string) (hi:P.info? e=some i) (hz:i.zero=some (.int .u8 0))
 (hsize:i.size=1) (hby:i.bytes=1)
 (v:Value) (n:Nat) (xs:List Value) (hs:a.eval sl=v) (hown:w.ownsRowF base e 1 v n xs) (s:ByteArray) (hx:a.eval x= .string s)
 (h63:n+s.size<=maxLen) (hbytes:n+s.size<=140737488355328) (hbase:base<=w.heap.size)
 (h:∀v' w',w'.ownsRowF base e 1 v' (n+s.size) (xs++Lib.strCells s)->w.grownBy w' v.ownBlock->(∀g,v'.ownBlock=some g->v.ownBlock=some g\/g=w.heap.size)->wpList P ops Q rest (a.put o.dst v') w'):wpList P ops Q (o::rest) a w:=by
 refine wpList_plain hgd fun K hK=>?_
 obtain⟨v',w',hr,h2,h3,h4⟩:=Lib.run_append_own_stringF (P:=P) w base t u o.type e i ht hu hi hz hsize hby v n xs hown s h63 hbytes hbase;have h5:=zoB (P:=P) w base t u o.type e i ht hu hi hz hsize hby v n xs hown s h63 hbytes (fun e1 e2 v2 w2 hr2=>by
  rw[hr]at hr2;simp only[J1]at hr2;rw[<-hr2.1];exact h4.2 ⟨e1,e2⟩) hr
 unfold Oper.wp execOp;simp only[ho,resolve,invoke,builtin,Sem.run_bind,Sem.run_pure,Result.andThen_ok,List.map_toArray,Zk,zdJ,hs,hx,hr];exact hK _ _ (h v' w' h2 h3 h5)
end
variable {A:H}{B:Nat}{txt:List UInt8}{v:Value}
def Bd (B tb:Nat)(txt:List UInt8)(v:Value)(A:H):Prop:=
 B<=tb/\(∃p,(p=pn O\/p=pn (E (Xd tb 0 O)))/\A.heap[tb]? =E (cl #[p,v] 88 (0,0)))/\A.ownsRowF B 5 1 v (Lib.byteCells txt).length (Lib.byteCells txt)/\v.ownBlock≠E tb
theorem Bd.keep{b C:Nat}{a:H}(h:Bd B b txt v A)(d:zn C A a):Bd B b txt v a:=by
 obtain⟨a,⟨p,c,b⟩,j,e⟩:=h;refine⟨a,⟨p,c,(d.cells' b rfl).trans b⟩,?_,e⟩;obtain⟨b,a|⟨i,e,f,g,m,k,c,l⟩⟩:=j;·exact⟨b,Or.inl a⟩
 ·exact⟨b,Or.inr ⟨i,e,f,g,m,k,(d.cells' c rfl).trans c,l⟩⟩
theorem Bd.below{b:Nat}{a:H}(h:Bd B b txt v A)(hb:Below A.heap.size A a):Bd B b txt v a:=h.keep (zn.of_below (B:=0) hb)
theorem Bd.lt{a:Nat}(h:Bd B a txt v A):a<A.heap.size/\∀g,v.ownBlock=E g->B<=g/\g<A.heap.size:=by
 obtain⟨_,⟨_,_,a⟩,b,_⟩:=h;exact⟨Jw a,fun g a=>b.lt g a⟩
theorem Bd.is{a:Nat}(h:Bd B a txt v A):Lib.IsBuilderF 88 5 B a (Lib.byteCells txt) A:=by
 obtain⟨a,⟨_,e,b⟩,c,d⟩:=h;rcases e with rfl|rfl
 ·exact Or.inl ⟨a,v,b,c,d⟩
 ·exact Or.inr ⟨a,v,b,c,d⟩
theorem zjd(B a:Nat)(txt:List UInt8)(v:Value)(s:List UInt8)(w:H)(h:Bd B a txt v w)(h1:txt.length+s.length<=140737488355328)(a7:B<=w.heap.size):
 Calls pg 37 #[pn (E (Xd a 0 O)),gS ⟨s.toArray⟩] w fun e w'=>(∃k,e=Xa (tp #[it Xb k,.nilIface]))/\∃x,Bd B a (txt++s) x w'/\Below B w w'/\Wr (fun k=>k=a\/v.ownBlock=E k) w w'/\∀g,x.ownBlock=E g->v.ownBlock=E g\/w.heap.size<=g:=by
 obtain⟨i0,hi,a4,a5,a6⟩:=Zn Tryz.info5;have a8:=h.lt.1;obtain⟨y,⟨Q,M,i⟩,I,F⟩:=h;have J:(Lib.byteCells txt).length=txt.length:=by simp[Lib.byteCells]
 have N:=zdo s;have S:=zf (zdd txt s);obtain⟨b,hw1,hbk1,hwr1⟩:∃b,(Q=pn (E (Xd a 0 O))/\b=w\/Q=pn O/\b=w.setCell (Xd a 0 O) (pn (E (Xd a 0 O))))/\b.heap[a]? =E (cl #[pn (E (Xd a 0 O)),v] 88 (0,0))/\Wr (fun k=>k=a\/v.ownBlock=E k) w b:=by
  rcases M with rfl|rfl
  ·refine⟨_,Or.inr ⟨rfl,rfl⟩,?_,Xq (T:=fun k=>k=a\/v.ownBlock=E k) (Xi _ _) (p:=(Xd a 0 O)) (Or.inl rfl) _⟩;simp only[World.setCell,zby,zbu,i,qY];rfl
  ·exact⟨w,Or.inl ⟨rfl,rfl⟩,i,Xi _ _⟩
 have L:b.ownsRowF B 5 1 v (Lib.byteCells txt).length (Lib.byteCells txt):=by
  rcases hw1 with ⟨_,rfl⟩|⟨_,rfl⟩
  ·exact I
  ·obtain⟨l,h1|⟨g,f,p,q,c,m,A,D⟩⟩:=I;·exact⟨l,Or.inl h1⟩
   ·refine⟨l,Or.inr ⟨g,f,p,q,c,m,(qC _ _ _ _ (fun e=>F (by rw[c];simp[Value.ownBlock];exact e))).trans A,D⟩⟩
 have a9:b.heap.size=w.heap.size:=by rcases hw1 with ⟨_,rfl⟩|⟨_,rfl⟩<;>simp
 have a0:Below B w b:=by
  rcases hw1 with ⟨_,rfl⟩|⟨_,rfl⟩
  ·exact qf _ _
  ·exact(qf _ _).setCell (p:=(Xd a 0 O)) y _
 have U:Hid (Calls pg 71 #[pn (E (Xd a 0 O))] w fun e w'=>e=Xa (tp #[])/\w'=b):=by
  rcases hw1 with ⟨rfl,rfl⟩|⟨rfl,rfl⟩
  ·exact zgg a b (ze _ _ _ _ _ _ i)
  ·exact zfN a w (ze _ _ _ _ _ _ i) (by simp[World.shape?,i]) (ZK _ _ _ _ _ i)
 clear hw1 i I M;have c0:b.cell? (Xd a 0 O)=E (pn (E (Xd a 0 O))):=ze _ _ _ _ _ _ hbk1;have c1:b.cell? (Xd a 1 O)=E v:=ze _ _ _ _ _ _ hbk1;go_enter func37,ntmps37
 go_wp2_with fail
 refine U.out.mono ?_;rintro e R ⟨rfl,rfl⟩;go_wp2_with (at_builtin;refine zfC _ rfl _ _ 86 9 rfl B 5 i0 underlying86 underlying9 hi a4 a5 a6 _ _ _ rfl L ⟨s.toArray⟩ rfl ?c3 ?c4 ?c5 ?_)
 case c3=>rw[J,N];unfold maxLen;omega
 case c4=>rw[J,N];omega
 case c5=>omega
 intro x j t d z;have a3:a<R.heap.size:=om;have r:j.heap[a]? =E (cl #[pn (E (Xd a 0 O)),v] 88 (0,0)):=by
  rw[d.block a a3 (fun e=>F e.symm)];exact hbk1
 have d0:j.cell? (Xd a 0 O)=E (pn (E (Xd a 0 O))):=ze _ _ _ _ _ _ r;have d1:j.cell? (Xd a 1 O)=E v:=ze _ _ _ _ _ _ r;have f1:j.frozen? (Xd a 1 O)=false:=ZK _ _ _ _ _ r;obtain⟨o,u,f,rfl⟩:∃o u f,x=V o u f:=by
  rcases t.2 with ⟨c,_⟩|⟨g,f,p,q,c,_⟩
  ·exact⟨_,_,_,c⟩
  ·exact⟨_,_,_,c⟩
 have a1:Wr (fun k=>k=a\/v.ownBlock=E k) R j:=⟨d.os,d.tape,d.output,d.size,fun k C e=>d.block k C (fun X=>e (Or.inr X.symm))⟩;have Y:∀g,(V o u f).ownBlock=E g->v.ownBlock=E g\/w.heap.size<=g:=fun g m=>(z g m).imp id (fun e=>om)
 have K:(V o u f).ownBlock≠E a:=fun e=>by
  rcases z a e with e|e
  ·exact F e
  ·omega
 have Z:=a0.grown d om (fun k C=>(L.lt k C).1);rw[S.out]at t;have a2:txt.length+s.length=(Lib.byteCells (txt++s)).length:=by simp[Lib.byteCells]
 rw[a2]at t;clear z d;go_wp2;go_ret2;refine⟨⟨_,rfl⟩,_,⟨y,⟨_,Or.inr rfl,?_⟩,?_,K⟩,Z.setCell (p:=(Xd a 1 O)) y _,Xq (T:=fun k=>k=a\/v.ownBlock=E k) (hwr1.trans a1) (p:=(Xd a 1 O)) (Or.inl rfl) _,Y⟩
 ·simp only[World.setCell,zby,zbu,r,qY];rfl
 ·obtain⟨l,h1|⟨g,W,p,q,c,m,A,D⟩⟩:=t;·exact⟨l,Or.inl h1⟩
  ·exact⟨l,Or.inr ⟨g,W,p,q,c,m,(qC _ _ _ _ (fun e=>K (by rw[c];simp[Value.ownBlock];exact e))).trans A,D⟩⟩
end

namespace T
open Go.RowKit
theorem zlM {n K:Nat}(h:n<10000^K):(Lib.decDigits n).length<=4*K+1:=
 zbS (4*K+1) _ (by rw[pow4]at h;exact zK h (ZD om om)) om
theorem zqA {p:Int}{q K:Nat}(a:p.natAbs<10000^K)(b:q<10000^K):(jL p q).length<=8*K+4:=by
 have c:=zlM a;have a:=zlM b;have a:(Lib.itoa p).length<=4*K+2:=by
  unfold Lib.itoa;split
  ·simp;omega
  ·rw[show p.toNat=p.natAbs by omega];omega
 unfold jL;split
 ·omega
 ·simp;omega
def varB (c:UInt8):Nat:=if 49<=c.toNat/\c.toNat<=52 then c.toNat-48 else 0
def varsN (ls:List (List UInt8)):Nat:=if ls.length=2/\ls.getD 0 []= [118,97,114,115]/\(ls.getD 1 []).length=1 then varB ((ls.getD 1 []).getD 0 0)else 0
theorem varB_le (c:UInt8):varB c<=4:=by
 unfold varB;split<;>omega
end T

section
structure qF where
 n:Nat
 mx:List Int
 rg:List (Int×Int)
 rows:List (List Int×List UInt8×Int)
def qF.none:qF:=⟨0,[],[],[]⟩
def zbB:List UInt8:= [109,97,120]
def Je:List UInt8:= [114,97,110,103,101]
def JX:List UInt8:= [114,111,119]
def zan:List UInt8:= [118,97,114,115]
def dOk (l:List UInt8):Bool:=T.okD (Lib.trimPrefix l [45]) 40
def jD (i:Nat)(p:qF)(ws:List (List UInt8)):Option qF:=
 if i=0 then(if T.varsN ws=0 then .none else E ⟨T.varsN ws,[],[],[]⟩)
 else if i=1 then(if ws.length=p.n+1/\ws.getD 0 []=zbB/\(ws.drop 1).all dOk=true then E { p with mx:=(ws.drop 1).map T.wZ } else .none)
 else if i<=1+p.n then(if ws.length=3/\ws.getD 0 []=Je/\(ws.drop 1).all dOk=true then E { p with rg:=p.rg ++ [(T.wZ (ws.getD 1 []),T.wZ (ws.getD 2 []))] } else .none)
 else(if p.rows.length<6/\ws.length=p.n+3/\ws.getD 0 []=JX/\((ws.drop 1).take p.n).all dOk=true/\jO (ws.getD (p.n+1) [])=true/\dOk (ws.getD (p.n+2) [])=true
  then E { p with rows:=p.rows ++ [(((ws.drop 1).take p.n).map T.wZ,ws.getD (p.n+1) [],T.wZ (ws.getD (p.n+2) []))] } else .none)
def ju:Nat->qF->List (List UInt8×Bool)->Except Nat qF
 |_,p,[]=> .ok p
 |i,p,l::r=>if l.2=false then .error (i+1)else match jD i p (Zb l.1)with
  |.none=> .error (i+1)
  |some q=>ju (i+1) q r
def zao:Nat->List (Int×Int)->Option Nat
 |_,[]=> .none
 |i,r::rs=>if 7<r.2-r.1 then E i else zao (i+1) rs
def QF (zs:List Int):List UInt8:=zs.flatMap fun z=>32::Lib.itoa z
def za1 (r:Int×Int):List UInt8:=Je++QF [r.1,r.2] ++ [10]
def rowS (r:List Int×List UInt8×Int):List UInt8:=JX++QF r.1++32::r.2.1++QF [r.2.2] ++ [10]
def ze4 (p:qF):List UInt8:=
 zan++32::Lib.itoa (p.n:Int) ++ [10]++(zbB++QF p.mx ++ [10])++p.rg.flatMap za1++p.rows.flatMap rowS
end

namespace T
open Go.RowKit
variable {a:List (List Value)}{size:Nat}{v:Value}{w:H}
theorem owns_same{w':H}{B e n:Nat}{xs:List Value}(h:w.ownsRow B e size v n xs)(hs:w.heap.size<=w'.heap.size)(p:∀g,v.ownBlock=E g->w'.heap[g]? =w.heap[g]?):w'.ownsRow B e size v n xs:=by
 obtain⟨a,f|⟨g,c,d,b,l,m,o,i,j,k⟩⟩:=h;·exact⟨a,Or.inl f⟩
 ·exact⟨a,Or.inr ⟨g,c,d,b,l,(p g (by rw[b];rfl)).trans m,o,i,j,k⟩⟩
def Recs (w:H)(v:Value)(size:Nat)(css:List (List Value)):Prop:=
 (v=V O 0 0/\css= [])\/∃g off cap,v=V (E (Xd g off O)) css.length cap/\css.length<=cap/\g<w.heap.size/\∀(i:Nat) (cs:List Value),css[i]? =E cs->∀(j:Nat) (u:Value),cs[j]? =E u->w.cell? ⟨g,off+i*size+j,O⟩=E u
theorem Recs.shape(h:Recs w v size a):∃b cap,v=V b a.length cap:=by
 rcases h with ⟨rfl,rfl⟩|⟨_,off,cap,rfl,_⟩
 ·exact⟨O,0,rfl⟩
 ·exact⟨_,_,rfl⟩
theorem Recs.at{b:Option Addr}{l cap:Nat}(h:Recs w (V b l cap) size a)(d:a≠ []):∃g off,b=E (Xd g off O)/\g<w.heap.size/\∀(i:Nat) (cs:List Value),a[i]? =E cs->∀(j:Nat) (u:Value),cs[j]? =E u->w.cell? ⟨g,off+i*size+j,O⟩=E u:=by
 rcases h with ⟨_,rfl⟩|⟨g,off,_,a,_,b,c⟩
 ·exact absurd rfl d
 ·simp only[qp]at a;exact⟨g,off,a.1,b,c⟩
theorem flat_get:∀(b:List (List Value)),(∀cs∈b,cs.length=size)->∀(i j:Nat) (cs:List Value) (u:Value),b[i]? =E cs->cs[j]? =E u->b.flatten[i*size+j]? =E u
 |[],_,i,j,cs,u,a,_=>by simp at a
 |c::b,h,i,j,cs,u,a,d=>by
  have e:=h c qA;have f:=(zo.1 d).1;rw[zcY];cases i with
  |zero=>
   simp only[zcR,qN]at a;subst a;rw[Nat.zero_mul,qt,zS f];exact d
  |succ i=>
   simp only[jg]at a;rw[zG (by rw[e,Zg];omega),e,show(i+1)*size+j-size=i*size+j by rw[Zg];omega];exact flat_get b (fun x b=>h x (qq _ b)) i j cs u a d
theorem zkw:∀(a:List (List Value)),(∀cs∈a,cs.length=size)->a.flatten.length=a.length*size
 |[],_=>sp
 |c::a,h=>by
  rw[zcY,zM,h c qA,zkw a (fun x b=>h x (qq _ b)),qi,Zg];omega
theorem recs_of_owns{B t:Nat}{a:List (List Value)}(h:w.ownsRow B t size v a.length a.flatten)(hs:∀cs∈a,cs.length=size):Recs w v size a:=by
 obtain⟨_,b|⟨g,d,e,j,_,c,i,_,_,f⟩⟩:=h;·exact Or.inl ⟨b.1,QZ b.2⟩
 ·refine Or.inr ⟨g,0,d,j,i,(zd.1 c).1,fun i cs d j u g=>?_⟩;have b:=flat_get a hs i j cs u d g;have d:i*size+j<a.length*size:=by
   have:=(zo.1 b).1;rw[zkw a hs]at this;exact this
  have a:e.toList[i*size+j]? =E u:=by
   rw[<-f,zaG d]at b;exact b
  rw[qt];refine(ze _ _ (i*size+j) _ _ _ c).trans ?_;rw[<-jz];exact a
theorem flat_snoc(a:List (List Value))(cs:List Value):a.flatten++cs=(a ++ [cs]).flatten:=sp
end T

section
open Go.RowKit
attribute [local go_sem] zD zW qJ
structure WT where
 b:Bool
 s:Option Addr×Nat×Nat
def WT.sv (t:WT):Value:=V t.s.1 t.s.2.1 t.s.2.2
def WT.val (t:WT):Value:=ag #[G t.b,t.sv]
def WT.cells (t:WT):List Value:= [G t.b,t.sv]
structure DP where
 r:Option Addr×Nat×Nat
 f:T.Tri
def DP.rv (t:DP):Value:=V t.r.1 t.r.2.1 t.r.2.2
def DP.val (t:DP):Value:=ag #[t.rv,G t.f.b,t.f.up,t.f.down]
theorem zqB {l:Nat}(n:Nat){P:Program}{v:Array Value}{W:H}{f g:H->Prop}
 (h:YieldAt Fence.wide 0 P l v W fun e a=>(e=Xa (G true)/\f a)\/(e=Xa (G false)/\g a)):
 ∃d tmps b c,(Instr.yield l v).run P W= .ok (.round l d tmps b c) W/\
  RoundIn Fence.wide n P l d tmps b c W fun e a=>∃t,e=Xa (G t)/\Hid ((t=true->f a)/\(t=false->g a)):=by
 obtain⟨d,tmps,b,c,g,f⟩:=Xu n h;refine⟨d,tmps,b,c,g,f.mono ?_⟩;rintro e a (⟨rfl,a⟩|⟨rfl,a⟩);·exact⟨true,rfl,fun _=>a,fun h=>by cases h⟩
 ·exact⟨false,rfl,(fun h=>by cases h),fun _=>a⟩
theorem JO (ts:List WT)(a:Option Addr)(cap b:Nat)(c:ts.length<=1000000):
 Ja pg 172 #[pn (E (Xd b 0 O))] ts.length (fun k v _=>∃t,ts[k]? =E t/\v=#[t.val]) (fun W=>W.cell? (Xd b 0 O)=E (V a ts.length cap)/\T.Recs W (V a ts.length cap) 2 (ts.map WT.cells)):=by
 intro l J a a W j b c d b;have e:=(c 0 a W b).1.1;have e:=zf c;have f:=zf d;refine zcW func172 ntmps172 (h:=?_);gi_wp2;gi_loopw [7] (fun i wr=>∃(k:Nat) (M:Nat->Prop),i=it Xb (k:Int)/\k<=ts.length/\J k M wr/\W.heap.size<=wr.heap.size) (fun i _=>ts.length-(intOf i).toNat)
 case atStart=>exact⟨0,a,rfl,qo _,b,zh _⟩
 case round=>
  obtain⟨k,M,rfl,_,b,_⟩:=hrel;by_cases a:k<ts.length
  ·have d:=zg a;obtain⟨_,off,rfl,_,c⟩:=(e.out k M wr b).1.2.at (by intro e;rw[QB]at e;rw[e]at a;simp at a);have e:=c k _ (by rw[zR,d];rfl);have c:=zf (fun g i=>f.out k #[(WT.val ts[k])] M g a ⟨_,d,rfl⟩ i);generalize ts[k]=t at *;obtain⟨_,_,_,_⟩:=t;have d:=e 0 _ rfl;have f:=e 1 _ rfl;rw[qV]at d;simp only[WT.cells,WT.sv]at d f;simp only[WT.val,WT.sv]at c;gi_wp2;refine jr (c.out _ (j _ _ _ _ b (zn.alloc _ _ _))) ?_ ?_
   ·rintro e ⟨f,d,c,_⟩;gi_wp2;go_roundw
    case rel=>exact⟨k+1,d,sp,a,c,by have:=f.size;simp at this;omega⟩
    case measure=>simp[intOf];omega
   ·intro e c;gi_wp2;refine zH (qI rfl _ _ _) rfl ?_;exact⟨⟨_,rfl⟩,.inr ⟨k,a,c.2⟩⟩
  ·gi_wp2;go_end0
   have a:k=ts.length:=om;subst a;exact⟨⟨_,rfl⟩,.inl ⟨M,b⟩⟩
theorem zdQ (a:Option Addr)(l c:Nat)(w:H):
 Calls pg 92 #[V a l c] w fun e w'=>e=Xa (.func (.func 172) #[] #[pn (E (Xd w.heap.size 0 O))])/\w'=w.alloc (cl #[V a l c] 106):=by
 go_enter func92,ntmps92
 go_wp2;go_ret;exact⟨rfl,rfl⟩
theorem zcz (ts:List WT)(a:List WT)(a2:ts.length=a.length)(j l:Option Addr)(cap q m o:Nat)(hn:ts.length<=1000000):
 Ja pg 240 #[pn (E (Xd m 0 O)),pn (E (Xd o 0 O))] ts.length (fun k v _=>∃t s,ts[k]? =E t/\a[k]? =E s/\v=#[t.val,s.val]) (fun W=>W.cell? (Xd m 0 O)=E (V j ts.length cap)/\W.cell? (Xd o 0 O)=E (V l ts.length q)/\T.Recs W (V j ts.length cap) 2 (ts.map WT.cells)/\T.Recs W (V l ts.length q) 2 (a.map WT.cells)):=by
 intro a5 K Jx g W S a4 x U u;obtain⟨_,_,-,-⟩:=(x 0 g W u).1;have F:=zf x;have J:=zf U;have I:=zf a2;have hm:Tryz.prog.follows .mixedOrders=true:=kr;refine zcW func240 ntmps240 (h:=?_);gi_wp2;gi_loopw [10] (fun i wr=>∃(k:Nat) (M:Nat->Prop),i=it Xb (k:Int)/\k<=ts.length/\K k M wr/\W.heap.size<=wr.heap.size) (fun i _=>ts.length-(intOf i).toNat)
 case atStart=>exact⟨0,g,rfl,qo _,u,zh _⟩
 case round=>
  obtain⟨k,M,rfl,_,c,_⟩:=hrel;by_cases b:k<ts.length
  ·have D:=zg b;have d:k<a.length:=by have:=I.out;omega
   have C:=zg d;obtain⟨_,_,r1,r2⟩:=(F.out k M wr c).1;obtain⟨_,off,rfl,_,X⟩:=r1.at (by intro e;rw[QB]at e;rw[e]at b;simp at b);obtain⟨_,_,rfl,_,Y⟩:=r2.at (by intro e;rw[QB]at e;rw[e]at d;simp at d);have z:=X k _ (by rw[zR,D];rfl);have A:=Y k _ (by rw[zR,C];rfl);have f:=zf (fun N a1=>J.out k #[(WT.val ts[k]),(WT.val a[k])] M N b ⟨_,_,D,C,rfl⟩ a1);generalize ts[k]=t at *;generalize a[k]=s at *;obtain⟨_,_,_,_⟩:=t;obtain⟨_,_,_,_⟩:=s;have p:=z 0 _ rfl;have Q:=z 1 _ rfl;rw[qV]at p;simp only[WT.cells,WT.sv]at p Q;have r:=A 0 _ rfl;have R:=A 1 _ rfl;rw[qV]at r;simp only[WT.cells,WT.sv]at r R;simp only[WT.val,WT.sv]at f;obtain⟨_,_,_,_,hy,y⟩:=zqB 0 (f.out wr.drew (S _ _ _ _ c (zn.drew _ wr)));gi_wp2;gi_region_with_o (refine y.mono ?_;rintro e W3 ⟨t,rfl,B⟩)
   all_goals clear y hy
   all_goals gi_wp2
   all_goals (rename_i ht;cases t<;>simp at ht)
   all_goals first
    |exact zH (qI rfl _ _ _) rfl ⟨⟨_,rfl⟩,.inr ⟨k,b,(B.out.2 rfl).2⟩⟩
    |(
     obtain⟨a3,L,a0,_⟩:=B.out.1 rfl;go_roundw
     case rel=>exact⟨k+1,L,sp,b,a0,by have:=a3.size;simp at this;omega⟩
     case measure=>simp[intOf];omega)
  ·gi_wp2;go_end0
   have Z:k=ts.length:=om;subst Z;exact⟨⟨_,rfl⟩,.inl ⟨M,c⟩⟩
theorem zex (a b:Option Addr)(l c d c':Nat)(w:H):
 Calls pg 166 #[V a l c,V b d c'] w fun e w'=>e=Xa (.func (.func 240) #[] #[pn (E (Xd w.heap.size 0 O)),pn (E ⟨w.heap.size+1,0,O⟩)])/\w'=(w.alloc (cl #[V a l c] 106)).alloc (cl #[V b d c'] 106):=by
 go_enter func166,ntmps166
 go_wp2;go_ret;exact⟨rfl,rfl⟩
