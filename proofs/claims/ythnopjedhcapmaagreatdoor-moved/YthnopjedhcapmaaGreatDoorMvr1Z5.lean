import Derived.Test.YthnopjedhcapmaaGreatDoorMvr1Z4
open Option renaming none->O,some->E
open Go.Value renaming slice->V,bool->G,string->gS,pointer->pn,tuple->tp,int->it,agg->ag
open Go.Obj renaming cells->cl
open Go renaming World->H
open Go.Proofs.Tryz renaming prog->pg
open Go.Proofs.Tryz
open Go.Ending renaming returned->Xa
open Go.IntKind renaming i64->Xb
open Go.Addr renaming mk->Xd
set_option linter.unusedSimpArgs false
set_option linter.unusedVariables false
set_option maxHeartbeats 1000000
set_option maxRecDepth 100000
namespace Go.Proofs.YthnopjedhcapmaaGreatDoor
section
open Go.RowKit
variable {B b k o:Nat}{v:Value}{w w':H}{z:Int}
def fv (s:ByteArray)(a n:Nat):Nat:=if a<s.size then(s.data.toList.getD a 0).toNat%n else 0
def fa (s:ByteArray)(a:Nat):Nat:=if a<s.size then a+1 else a
theorem zqv(s:ByteArray)(g a n:Nat)(w:H)(hb:Zh w g (gS s) (i_ (a:Nat)))(hs:s.size<=9223372036854775807)(b:a<=s.size)(c:0<n)(d:n<=1000):
 C_ 14 #[p_ g 0,i_ (n:Nat)] w fun e w'=>e=Xa (i_ (fv s a n:Nat))/\Zh w' g (gS s) (i_ (fa s a:Nat))/\Wr (fun k=>k=g) w w':=by
 have h:=hb;obtain⟨c,d,b,f,i⟩:=h;by_cases h:a<s.size
 ·have j:(a:Int)<(s.size:Int):=om;have l:¬(n:Int)=0:=om;unfold fv fa;rw[zQ h,zQ h];have m:s.data.toList.getD a 0=s[a]:=by
   rw[zk,zg (by rw[js];exact h)];rfl
  have l:(s[a]).toNat<256:=(s[a]).toNat_lt;have l:((s[a]).toNat:Int).tmod (n:Int)=(((s[a]).toNat%n:Nat):Int):=by rw[Int.tmod_eq_emod_of_nonneg om];rfl
  have l:Zh (w.setCell (Xd g 1 O) (i_ ((a:Int)+1))) g (gS s) (i_ ((a:Int)+1)):=⟨by rw[zA _ _ _ _ (by intro e;injection e with _ o;omega)];exact c,zN _ _ _ d,by simpa using b,by simpa using f,by simpa using i⟩;have b:Wr (fun k=>k=g) w (w.setCell (Xd g 1 O) (i_ ((a:Int)+1))):=Xs (T:=fun k=>k=g) (Xj _ w) (p:=(Xd g 1 O)) rfl _;have f:Zh (w.setCell (Xd g 1 O) (i_ ((a:Int)+1))).drew.drew g (gS s) (i_ ((a+1:Nat):Int)):=l;rw[m];generalize i:(s[a]).toNat=i at *;go_enter func14,ntmps14
  go_wp2;go_region_held3 (fun w'=>w'.cell? (Xd g 0 O)=E (gS s)/\w'.cell? (Xd g 1 O)=E (i_ (a:Nat))) (first|exact⟨c,d⟩|go_keep) (fail)
  all_goals go_wp2
  all_goals go_region_held3 (fun w'=>w'.cell? (Xd g 0 O)=E (gS s)/\w'.cell? (Xd g 1 O)=E (i_ (a:Nat))) (first|exact⟨c,d⟩|go_keep) (fail)
  all_goals go_wp2
  all_goals go_ret
  all_goals exact⟨zaQ sp,f,⟨b.os,b.tape,b.output,b.size,b.block⟩⟩
 ·have j:¬(a:Int)<(s.size:Int):=om;unfold fv fa;rw[zO h,zO h];go_enter func14,ntmps14
  go_wp2;go_region_held3 (fun w'=>w'.cell? (Xd g 0 O)=E (gS s)/\w'.cell? (Xd g 1 O)=E (i_ (a:Nat))) (first|exact⟨c,d⟩|go_keep) (fail)
  all_goals go_wp2
  all_goals go_ret
  all_goals exact⟨rfl,hb,Xp _ _⟩
theorem Row.kept{off:Nat}{ds:N_}(h:Row w b off ds)(c:zn B w w'):Row w' b off ds:=
 fun i a=>c.cell (h i a)
theorem NatV.keep{n:Nat}(h:NatV w v n)(a:zn B w w'):NatV w' v n:=by
 obtain⟨d,⟨b,c,i,f,g⟩,e⟩:=h;refine⟨d,⟨b,c,i,f,fun f=>?_⟩,e⟩;obtain⟨b,off,c,d,e⟩:=g f;exact⟨b,off,c,zK d a.size,e.kept a⟩
theorem zy.keep{x:Value}(h:zy w x z)(e:zn B w w'):zy w' x z:=by
 obtain⟨b,v,a,c,d⟩:=h;exact⟨b,v,a,c.keep e,d⟩
theorem qK.same(h:qK w k)(a:w'.heap[k]? =w.heap[k]?):qK w' k:=by
 obtain⟨⟨o,d,c⟩,b⟩:=h;exact⟨⟨o,a.trans d,c⟩,fun p v c=>b p v ((Zj (w:=w) a).symm.trans c)⟩
theorem qK.keep(h:qK w k)(c:zn B w w'):qK w' k:=by
 obtain⟨o,a,b⟩:=h.1;exact h.same ((c.block k o a (.inr b)).trans a.symm)
theorem qK.wr{T:Nat->Prop}(h:qK w k)(c:Wr T w w')(b:¬T k):qK w' k:=by
 obtain⟨_,a,_⟩:=h.1;exact h.same (c.block k (zd.1 a).1 b)
theorem qK.setCell{p:Nat}{y:Value}(h:qK w k)(g:w.cell? (Xd k p O)=E y)(f:∀n,v≠it .u32 n):qK (w.setCell (Xd k p O) v) k:=by
 obtain⟨⟨o,c,_⟩,d⟩:=h;refine⟨?_,fun q u a n=>?_⟩
 ·obtain⟨e,b⟩:=zd.1 c;have c:k<(w.setCell (Xd k p O) v).heap.size:=by simpa[World.setCell]using e
  refine⟨_,qD c,?_⟩;simp only[World.setCell,Array.getElem_modify,zbu,b];cases o<;>simp_all[Obj.isCells]
 ·by_cases b:p=q
  ·subst b;rw[zN _ _ _ g]at a;cases a;exact f n
  ·rw[zA _ _ _ _ (by intro e;injection e with _ c;exact b c)]at a;exact d q u a n
theorem NatV.wr{T:Nat->Prop}{n:Nat}(h:NatV w v n)(e:Wr T w w')(m:∀k,T k->qK w k):NatV w' v n:=by
 obtain⟨a,⟨b,c,i,f,g⟩,d⟩:=h;refine⟨a,⟨b,c,i,f,fun c=>?_⟩,d⟩;obtain⟨b,off,i,l,d⟩:=g c;have j:¬T b:=by
  intro f;have g:=ZC.2 c;exact(m b f).2 _ _ (d 0 g) _ rfl
 exact⟨b,off,i,zK l e.size,fun i a=>e.cell j (d i a)⟩
theorem zy.wr{T:Nat->Prop}{x:Value}(h:zy w x z)(f:Wr T w w')(e:∀k,T k->qK w k):zy w' x z:=by
 obtain⟨b,v,a,c,d⟩:=h;exact⟨b,v,a,c.wr f e,d⟩
def Q3 (w:H)(b o:Nat)(z:Int):Prop:=
 ∃x ao l c,w.cell? (Xd b o O)=E (G x)/\w.cell? ⟨b,o+1,O⟩=E (V ao l c)/\zy w (ag #[G x,V ao l c]) z/\w.frozen? (Xd b o O)=false/\w.frozen? ⟨b,o+1,O⟩=false
theorem Q3.keep(h:Q3 w b o z)(a:zn B w w'):Q3 w' b o z:=by
 obtain⟨x,e,l,f,c,d,g,i,j⟩:=h;exact⟨x,e,l,f,a.cell c,a.cell d,g.keep a,(a.frozen c).trans i,(a.frozen d).trans j⟩
theorem Q3.lt(h:Q3 w b o z):b<w.heap.size:=by
 obtain⟨_,_,_,_,a,_⟩:=h;exact zw a
theorem Q3.put{z':Int}{x:Bool}{a:A_}{l c:Nat}(h:Q3 w b o z)(m:qK w b)(q:zy w (ag #[G x,V a l c]) z'):
 Q3 ((w.setCell (Xd b o O) (G x)).setCell ⟨b,o+1,O⟩ (V a l c)) b o z':=by
 obtain⟨_,d,r,e,g,i,_,j,k⟩:=h;have f:(w.setCell (Xd b o O) (G x)).cell? ⟨b,o+1,O⟩=E (V d r e):=by
  rw[zA _ _ _ _ (by intro e;injection e with _ d;omega)];exact i
 refine⟨x,a,l,c,?_,zN _ _ _ f,?_,by simpa using j,by simpa using k⟩
 ·rw[zA _ _ _ _ (by intro e;injection e with _ d;omega)];exact zN _ _ _ g
 ·exact q.wr (T:=fun k=>k=b) (((Xj (fun k=>k=b) w).setCell (p:=(Xd b o O)) rfl _).setCell (p:=⟨b,o+1,O⟩) rfl _) (fun k e=>e▸m)
theorem Q3.other{p:Nat}{x:Bool}(h:Q3 w b p z)(j:qK w b)(a:p+1<o\/o+1<p):
 Q3 ((w.setCell (Xd b o O) (G x)).setCell ⟨b,o+1,O⟩ v) b p z:=by
 obtain⟨y,a,k,c,d,f,g,e,i⟩:=h;refine⟨y,a,k,c,?_,?_,?_,by simpa using e,by simpa using i⟩
 ·rw[zA _ _ _ _ (by intro e;injection e with _ a;omega),zA _ _ _ _ (by intro e;injection e with _ a;omega)];exact d
 ·rw[zA _ _ _ _ (by intro e;injection e with _ a;omega),zA _ _ _ _ (by intro e;injection e with _ a;omega)];exact f
 ·exact g.wr (T:=fun k=>k=b) (((Xj (fun k=>k=b) w).setCell (p:=(Xd b o O)) rfl _).setCell (p:=⟨b,o+1,O⟩) rfl _) (fun k e=>e▸j)
theorem zlJ(s:ByteArray)(m:Nat)(w:H)(hm:m<=1099511627776)(hs:s.size<=9223372036854775807)(h:s.data.toList= []\/m<s.size\/Qm s.data.toList=false):
 C_ 37 #[gS s,i_ (m:Nat)] w fun e w'=>e=Xa (tp #[V_,G false])/\w'=w:=by
 by_cases a:m<s.size
 ·have a:(m:Int)<(s.size:Int):=om;have a:((s.size:Int) == 0)=false:=ZN.2 om;clear h;go_enter func37,ntmps37
  go_wp2;go_ret2;exact⟨rfl,rfl⟩
 ·exact zmu s m w hm om h
theorem zk4(s:ByteArray)(m:Nat)(w:H)(hm:m<=1000000000)(hs:s.size<=9223372036854775807)(h:T.okD (Lib.trimPrefix s.data.toList [45]) m=false):
 C_ 35 #[gS s,i_ (m:Nat)] w fun e w'=>∃b x l cap,e=Xa (tp #[ag #[G b,V x l cap],G false])/\b_ w w':=by
 have o:Zh (w.alloc (cl #[G false,V_] 64)) w.heap.size (G false) (V_):=Xm _ _ _ _;have k:b_ w (w.alloc (cl #[G false,V_] 64)):=(qf _ _).alloc (zh _) _;have c:=Tryz.strings_CutPrefix s ⟨#[45]⟩ (w.alloc (cl #[G false,V_] 64));have i:(ByteArray.mk #[45]).data.toList= [45]:=rfl;rw[i]at c;have I:(Lib.trimPrefix s.data.toList [45]).length<=s.size:=by
  rw[<-zdP s,Lib.trimPrefix];split
  ·simp
  ·exact zh _
 generalize Lib.trimPrefix s.data.toList [45]=d at *;generalize Lib.hasPrefix s.data.toList [45]=neg at *;have p:(ByteArray.mk d.toArray).data.toList= []\/m<(ByteArray.mk d.toArray).size\/Qm (ByteArray.mk d.toArray).data.toList=false:=by
  have e:(ByteArray.mk d.toArray).data.toList=d:=sp;rw[e,zfg];unfold T.okD at h;by_cases j:d= []
  ·exact Or.inl j
  ·by_cases A:d.length<=m
   ·rw[zbA j,zbA A,zaT,zaT]at h;exact Or.inr (Or.inr h)
   ·exact Or.inr (Or.inl om)
 have u:=zf (fun W=>zlJ ⟨d.toArray⟩ m W om (by rw[zfg];omega) p);have t:=zf c;clear c i p h;go_enter func35,ntmps35
 go_wp2_with fail
 refine t.out.mono ?_;rintro e J ⟨rfl,rfl⟩;go_wp2_with fail
 refine(u.out _).mono ?_;rintro e K ⟨rfl,rfl⟩;go_wp2_with fail
 refine(Jh _ _ _ _ (Xo _ _ _)).mono ?_;rintro e F ⟨_,rfl,D,a⟩;obtain⟨g,f,r,q,rfl,_,_⟩:=D.parts;have C:=o.below a;have B:=k.trans (a.mono k.size);obtain⟨y,z,_,_,_⟩:=C;clear a o;go_wp2;exact zH (v:=tp #[ag #[G g,V f r q],G false]) (by simp[results,results35,go_sem,y,z]) rfl ⟨g,f,r,q,rfl,(B.setCell sp _).setCell sp _⟩
theorem zoy{l:U_}{m:Nat}(h:T.okD l m=true):0<l.length/\l.length<=m/\Qm l=true:=by
 unfold T.okD at h;simp only[Qj,Z9]at h;exact⟨ZC.2 h.1,h.2.1,h.2.2⟩
theorem zoz(s:ByteArray)(w:H):
 C_ 122 #[gS s,gS ⟨#[10]⟩] w fun e w'=>e=Xa (i_ (Lib.index s.data.toList [10]))/\w'=w:=by
 by_cases h:s=⟨#[10]⟩
 ·subst h;go_enter func122,ntmps122
  go_wp2;go_ret;exact⟨rfl,rfl⟩
 ·have a:(([10]:U_) == s.toList)=false:=by
   rw[ZN,zck];intro e;exact h (by obtain⟨⟨_⟩⟩:=s;simp at e;rw[<-e])
  have a:=zf (zi1 s.data.toList 10);go_enter func122,ntmps122
  go_wp2_with fail
  refine(Tryz.stringslite_IndexByte s 10 _).mono ?_;rintro e b ⟨rfl,rfl⟩;go_wp2;go_ret;exact⟨zaQ a.out,rfl⟩
theorem zlK(l:U_):-1<=Lib.index l [10]/\Lib.index l [10]<l.length\/Lib.index l [10]=-1:=by
 by_cases h:Lib.index l [10]=-1
 ·exact Or.inr h
 ·left
  refine⟨Lib.index_ge _ _,?_⟩;rw[<-zi1]at h⊢;have a:=Lib.indexByte_ge l 10;obtain⟨o,ho⟩:∃o:Nat,Lib.indexByte l 10=(o:Int):=⟨(Lib.indexByte l 10).toNat,om⟩;rw[ho];have a:=(Lib.indexByte_some ho).1;have b:=(zo.1 a).1;omega
theorem zk5(s:ByteArray)(w:H)(hs:s.size<=9223372036854775807):
 C_ 64 #[gS s,gS ⟨#[10]⟩] w fun e w'=>e=Xa (tp #[gS ⟨(Lib.cut s.data.toList [10]).1.toArray⟩,gS ⟨(Lib.cut s.data.toList [10]).2.1.toArray⟩,G (Lib.cut s.data.toList [10]).2.2])/\∃n,w'=w.drewN n:=by
 have a:=zlK s.data.toList;rw[zdP]at a;have a:=zdP s;have d:=zf (zoz s);have c:Hid (Lib.cut s.data.toList [10]=if 0<=Lib.index s.data.toList [10]then(s.data.toList.take (Lib.index s.data.toList [10]).toNat,s.data.toList.drop ((Lib.index s.data.toList [10]).toNat+1),true)else(s.data.toList,[],false)):=by rw[Hid,Lib.cut];rfl
 generalize Lib.index s.data.toList [10]=z at *;by_cases g:0<=z
 ·obtain⟨k,rfl⟩:∃k:Nat,z=(k:Int):=⟨z.toNat,om⟩;have a:=c.out;rw[zQ g,jT]at a;have b:=zf a;have f:ByteArray.mk (s.data.toList.take k).toArray=s.extract 0 k:=(T.ba_of (by rw[zdm,Q2,zdO])).symm;have j:ByteArray.mk (s.data.toList.drop (k+1)).toArray=s.extract (k+1) s.size:=(T.ba_of (by rw[Lib.extract_to_end])).symm;have h:=zf f;have i:=zf j;have j:k<s.size:=om;go_enter func64,ntmps64
  go_wp2_with fail
  refine(d.out _).mono ?_;rintro e j ⟨rfl,rfl⟩;go_wp2;go_region
  all_goals go_wp2
  all_goals exact zH (v:=tp #[gS (s.extract 0 k),gS (s.extract (k+1) s.size),G true]) (by simp[results,results64,go_sem]) rfl ⟨by rw[b.out,h.out,i.out],1,rfl⟩
 ·obtain rfl:z=-1:=om;have a:=c.out;rw[zO g]at a;have b:=zf a;have f:ByteArray.mk s.data.toList.toArray=s:=rfl;go_enter func64,ntmps64
  go_wp2_with fail
  refine(d.out _).mono ?_;rintro e j ⟨rfl,rfl⟩;go_wp2;exact zH (v:=tp #[gS s,gS ⟨#[]⟩,G false]) (by simp[results,results64,go_sem]) rfl ⟨by rw[b.out],0,rfl⟩
theorem zrN(s:ByteArray)(w:H)(hs:s.size<=9223372036854775807):
 C_ 34 #[gS s,gS ⟨#[10]⟩] w fun e w'=>e=Xa (tp #[gS ⟨(Lib.cut s.data.toList [10]).1.toArray⟩,gS ⟨(Lib.cut s.data.toList [10]).2.1.toArray⟩,G (Lib.cut s.data.toList [10]).2.2])/\∃n,w'=w.drewN n:=by
 have a:=zf (fun W=>zk5 s W hs);generalize Lib.cut s.data.toList [10]=c at *;go_enter func34,ntmps34
 go_wp2_with fail
 refine(a.out _).mono ?_;rintro e a ⟨rfl,q,rfl⟩;go_wp2;exact zH (v:=tp #[gS ⟨c.1.toArray⟩,gS ⟨c.2.1.toArray⟩,G c.2.2]) (by simp[results,results34,go_sem]) rfl ⟨rfl,q,rfl⟩
theorem zmy(s:ByteArray)(w:H):
 C_ 122 #[gS s,gS ⟨#[32]⟩] w fun e w'=>e=Xa (i_ (Lib.index s.data.toList [32]))/\w'=w:=by
 by_cases h:s=⟨#[32]⟩
 ·subst h;go_enter func122,ntmps122
  go_wp2;go_ret;exact⟨rfl,rfl⟩
 ·have a:(([32]:U_) == s.toList)=false:=by
   rw[ZN,zck];intro e;exact h (by obtain⟨⟨_⟩⟩:=s;simp at e;rw[<-e])
  have a:=zf (zi1 s.data.toList 32);go_enter func122,ntmps122
  go_wp2_with fail
  refine(Tryz.stringslite_IndexByte s 32 _).mono ?_;rintro e b ⟨rfl,rfl⟩;go_wp2;go_ret;exact⟨zaQ a.out,rfl⟩
theorem zj5(l:U_):-1<=Lib.index l [32]/\Lib.index l [32]<l.length\/Lib.index l [32]=-1:=by
 by_cases h:Lib.index l [32]=-1
 ·exact Or.inr h
 ·left
  refine⟨Lib.index_ge _ _,?_⟩;rw[<-zi1]at h⊢;have a:=Lib.indexByte_ge l 32;obtain⟨o,ho⟩:∃o:Nat,Lib.indexByte l 32=(o:Int):=⟨(Lib.indexByte l 32).toNat,om⟩;rw[ho];have a:=(Lib.indexByte_some ho).1;have b:=(zo.1 a).1;omega
theorem zjb(s:ByteArray)(w:H)(hs:s.size<=9223372036854775807):
 C_ 64 #[gS s,gS ⟨#[32]⟩] w fun e w'=>e=Xa (tp #[gS ⟨(Lib.cut s.data.toList [32]).1.toArray⟩,gS ⟨(Lib.cut s.data.toList [32]).2.1.toArray⟩,G (Lib.cut s.data.toList [32]).2.2])/\∃n,w'=w.drewN n:=by
 have a:=zj5 s.data.toList;rw[zdP]at a;have a:=zdP s;have d:=zf (zmy s);have c:Hid (Lib.cut s.data.toList [32]=if 0<=Lib.index s.data.toList [32]then(s.data.toList.take (Lib.index s.data.toList [32]).toNat,s.data.toList.drop ((Lib.index s.data.toList [32]).toNat+1),true)else(s.data.toList,[],false)):=by rw[Hid,Lib.cut];rfl
 generalize Lib.index s.data.toList [32]=z at *;by_cases g:0<=z
 ·obtain⟨k,rfl⟩:∃k:Nat,z=(k:Int):=⟨z.toNat,om⟩;have a:=c.out;rw[zQ g,jT]at a;have b:=zf a;have f:ByteArray.mk (s.data.toList.take k).toArray=s.extract 0 k:=(T.ba_of (by rw[zdm,Q2,zdO])).symm;have j:ByteArray.mk (s.data.toList.drop (k+1)).toArray=s.extract (k+1) s.size:=(T.ba_of (by rw[Lib.extract_to_end])).symm;have h:=zf f;have i:=zf j;have j:k<s.size:=om;go_enter func64,ntmps64
  go_wp2_with fail
  refine(d.out _).mono ?_;rintro e j ⟨rfl,rfl⟩;go_wp2;go_region
  all_goals go_wp2
  all_goals exact zH (v:=tp #[gS (s.extract 0 k),gS (s.extract (k+1) s.size),G true]) (by simp[results,results64,go_sem]) rfl ⟨by rw[b.out,h.out,i.out],1,rfl⟩
 ·obtain rfl:z=-1:=om;have a:=c.out;rw[zO g]at a;have b:=zf a;have f:ByteArray.mk s.data.toList.toArray=s:=rfl;go_enter func64,ntmps64
  go_wp2_with fail
  refine(d.out _).mono ?_;rintro e j ⟨rfl,rfl⟩;go_wp2;exact zH (v:=tp #[gS s,gS ⟨#[]⟩,G false]) (by simp[results,results64,go_sem]) rfl ⟨by rw[b.out],0,rfl⟩
theorem zkv(s:ByteArray)(w:H)(hs:s.size<=9223372036854775807):
 C_ 34 #[gS s,gS ⟨#[32]⟩] w fun e w'=>e=Xa (tp #[gS ⟨(Lib.cut s.data.toList [32]).1.toArray⟩,gS ⟨(Lib.cut s.data.toList [32]).2.1.toArray⟩,G (Lib.cut s.data.toList [32]).2.2])/\∃n,w'=w.drewN n:=by
 have a:=zf (fun W=>zjb s W hs);generalize Lib.cut s.data.toList [32]=c at *;go_enter func34,ntmps34
 go_wp2_with fail
 refine(a.out _).mono ?_;rintro e a ⟨rfl,q,rfl⟩;go_wp2;exact zH (v:=tp #[gS ⟨c.1.toArray⟩,gS ⟨c.2.1.toArray⟩,G c.2.2]) (by simp[results,results34,go_sem]) rfl ⟨rfl,q,rfl⟩
attribute [local go_sem] zD
def lineV (k:Nat)(x:U_×Bool)(last:Bool):W_:=#[ag #[i_ ((k+1:Nat):Int),gS ⟨x.1.toArray⟩,G x.2,G last]]
def zb7:Nat->List (U_×Bool)->List (W_)
 |_,[]=> []
 |k,x::r=>lineV k x r.isEmpty::zb7 (k+1) r
theorem zlL{f:Nat}{l:U_}(h:l.length<=f):(JA f l).isEmpty=l.isEmpty:=by
 by_cases a:l= []
 ·subst a;rw[zbN];simp
 ·obtain⟨f,rfl⟩:∃b,f=b+1:=⟨f-1,by have:=ZC.2 a;omega⟩;rw[JA,zO a];simp[a]
theorem zjc(k:Nat)(l:List (U_×Bool)):(zb7 k l).length=l.length:=by
 induction l generalizing k with
 |nil=>rfl
 |cons x r a=>simp[zb7,a]
theorem of_seq(s:U_)(hs:s.length<=1000000000)(a:Nat):
 SeqL pg 143 #[p_ a 0] (zb7 0 (QW s)) (fun W=>W.cell? (Xd a 0 O)=E (gS ⟨s.toArray⟩)):=by
 obtain⟨b,hvs⟩:∃b,zb7 0 (QW s)=b:=⟨_,rfl⟩;rw[hvs];have e:=zf hvs;intro m J a c W t a a f d;have g:=(a 0 c W d).1;have o:=zf f;refine zcW func143 ntmps143 (h:=?_);gi_wp2;gi_loopw [3,4] (fun r n wr=>∃(f k:Nat) (M:Nat->Prop) (a:U_),r=gS ⟨a.toArray⟩/\n=i_ ((k+1:Nat):Int)/\a.length<=f/\a.length<=1000000000/\k<=b.length/\b.length<=1000000000/\Hid (b.drop k=zb7 k (JA f a))/\J k M wr)
  (fun r _ _=>zhl r)
 case atStart=>exact⟨s.length,0,c,s,rfl,rfl,zh _,hs,qo _,by rw[<-e.out,zjc];exact zF (zgA _ s).1 hs,e.out.symm,d⟩
 case round=>
  obtain⟨f,k,M,a,rfl,rfl,_,_,_,u,g,j⟩:=hrel;by_cases e:a= []
  ·subst e;gi_wp2;go_end0
   have d:=g.out;rw[zbN]at d;have l:=List.drop_eq_nil_iff.1 d;obtain rfl:k=b.length:=om;exact⟨⟨_,rfl⟩,.inl ⟨M,j⟩⟩
  ·have c:a.isEmpty=false:=by simpa using e
   obtain⟨f,rfl⟩:∃c,f=c+1:=⟨f-1,by have:=ZC.2 e;omega⟩;obtain⟨c,hcut⟩:∃c,Lib.cut a [10]=c:=⟨_,rfl⟩;have i:=zf hcut;gi_wp2;refine⟨trivial,rfl,(zq.2 (zrN _ _ (by simp[ByteArray.size];omega))).mono ?_⟩;simp only[];rw[i.out];rintro q q ⟨rfl,q,rfl⟩;gi_wp2;have r:b_ wr (((((wr.alloc (cl #[i_ ((k:Int)+1),gS ⟨#[]⟩,G false,G false] 158)).drewN q).setCell (y_ wr 1) (gS ⟨c.1.toArray⟩)).setCell (y_ wr 2) (G c.2.2)).setCell (y_ wr 3) (G c.2.1.isEmpty)):=
    (((Below.drawn ((qf _ wr).alloc (zh _) _) q).setCell (p:=(y_ wr 1)) (zh _) _).setCell (p:=(y_ wr 2)) (zh _) _).setCell (p:=(y_ wr 3)) (zh _) _
   have d:=g.out;have g:=i.out;rw[JA,zO e,g,zb7]at d;have i:b[k]? =E (lineV k (c.1,c.2.2) (JA f c.2.1).isEmpty):=by
    have:=qm (fun m=>m[0]?) d;simpa using this
   have q:b.drop (k+1)=zb7 (k+1) (JA f c.2.1):=by
    have:=qm List.tail d;simpa using this
   have l:=(zo.1 i).1;have m:=zf q;have d:=zdk 10 a;rw[g]at d;have b:c.2.1.length<a.length:=by
    by_cases b:c.2.2=true
    ·rw[zQ b]at d;omega
    ·have:=zjU (c:=10) (l:=a) (by rw[g];simpa using b);rw[g]at this;rw[this];exact ZC.2 e
   rw[zlL om]at i;refine jr (o.out k _ _ _ i (t _ _ _ _ j (zn.of_below r))) ?_ ?_
   ·rintro d ⟨_,b,a,_⟩;gi_wp2;go_roundw
    case rel=>exact⟨f,k+1,b,c.2.1,rfl,sp,om,om,om,u,m,a⟩
    case measure=>simp[zhl,ByteArray.size];omega
   ·intro d a;gi_wp2;refine zH (qI rfl _ _ _) rfl ?_;exact⟨⟨_,rfl⟩,.inr ⟨k,l,a.2⟩⟩
def bval:Value->Nat|G true=>1|_=>0
theorem zqw(l:U_):(ByteArray.mk l.toArray).size=l.length:=by simp[ByteArray.size]
def zgF (x:U_):W_:=#[gS ⟨x.toArray⟩]
theorem zoA(s:U_)(hs:s.length<=1000000000)(t:Nat):
 SeqL pg 262 #[p_ t 0] ((Zb s).map zgF) (fun W=>W.cell? (Xd t 0 O)=E (gS ⟨s.toArray⟩)):=by
 obtain⟨b,hvs⟩:∃b,(Zb s).map zgF=b:=⟨_,rfl⟩;rw[hvs];have a2:=zf hvs;intro A J Jx l W v a4 T U u;have hc:=(T 0 l W u).1;have F:=zf U;have C:Hid (∃c,Lib.cut s [32]=c):=⟨_,rfl⟩;obtain⟨L,X⟩:=C.out;have o:=zf X;refine zcW func262 ntmps262 (h:=?_);gi_wp2;refine⟨trivial,rfl,(zq.2 (zkv _ _ (by simp[ByteArray.size];omega))).mono ?_⟩;simp only[];rw[o.out];rintro N w1 ⟨rfl,q,rfl⟩;gi_wp2;have a0:=v _ _ _ _ u (zn.drewN _ _ q);gi_loopw [3,4,5] (fun K m c wr=>∃(f k:Nat) (M:Nat->Prop) (e:U_) (d:U_×U_×Bool),K=gS ⟨d.1.toArray⟩/\m=gS ⟨d.2.1.toArray⟩/\c=G d.2.2/\Hid (Lib.cut e [32]=d)/\e.length<=f/\e.length<=1000000000/\Hid (b.drop k=(zaD (f+1) e).map zgF)/\J k M wr)
  (fun _ m c _=>zhl m+bval c)
 case atStart=>exact⟨s.length,0,l,s,L,rfl,rfl,rfl,o,zh _,hs,a2.out.symm,a0⟩
 case round=>
  obtain⟨f,k,M,e,d,rfl,rfl,rfl,g,_,_,D,hj⟩:=hrel;have a:=D.out;have x:=g.out;rw[zaD,x,Zk]at a;have z:b[k]? =E (zgF d.1):=by
   have:=qm (fun A=>A[0]?) a;simpa using this
  have Y:b.drop (k+1)=(if d.2.2=true then zaD f d.2.1 else []).map zgF:=by
   have:=qm List.tail a;simpa using this
  have a1:=(zo.1 z).1;have p:=zf Y;have y:=zdk 32 e;rw[x]at y;gi_wp2;refine jr (F.out k _ _ _ z hj) ?_ ?_
  ·rintro I ⟨_,r,j,_⟩;by_cases i:d.2.2=true
   ·rw[zQ i]at y;obtain⟨f,rfl⟩:∃S,f=S+1:=⟨f-1,om⟩;have a:=p.out;rw[zQ i]at a;have B:=zf a;obtain⟨c,hcut⟩:∃c,Lib.cut d.2.1 [32]=c:=⟨_,rfl⟩;have g:=zf hcut;gi_wp2;refine⟨trivial,rfl,(zq.2 (zkv _ _ (by simp[ByteArray.size];omega))).mono ?_⟩;simp only[];rw[g.out];rintro N w1 ⟨rfl,q,rfl⟩;gi_wp2;go_roundw
    case rel=>exact⟨f,k+1,r,d.2.1,c,rfl,rfl,rfl,g,om,om,B,v _ _ _ _ j (zn.drewN _ _ q)⟩
    case measure=>
     have:=zdk 32 d.2.1;rw[g.out]at this;have Q:bval (G c.2.2)=if c.2.2=true then 1 else 0:=by cases c.2.2<;>rfl
     have R:bval (G d.2.2)=1:=by rw[i];rfl
     simp[zhl,Q,R,zqw];omega
   ·have a3:d.2.2=false:=by simpa using i
    gi_wp2;go_end0
    have a:=p.out;rw[zO i]at a;have hl:=List.drop_eq_nil_iff.1 (by simpa using a);have Z:k+1=b.length:=om;exact⟨⟨_,rfl⟩,.inl ⟨r,Z▸j⟩⟩
  ·intro I j;gi_wp2;go_end0
   exact⟨⟨_,rfl⟩,.inr ⟨k,a1,j.2⟩⟩
theorem of_mk(s:ByteArray)(w:H):
 C_ 82 #[gS s] w fun e w'=>e=Xa (.func (.func 143) #[] #[p_ w.heap.size 0])/\w'=w.alloc (cl #[gS s] 9):=by
 go_enter func82,ntmps82
 go_wp2;go_ret;exact⟨rfl,rfl⟩
theorem zqx(s:ByteArray)(w:H):
 C_ 245 #[gS s] w fun e w'=>e=Xa (.func (.func 262) #[] #[p_ w.heap.size 0])/\w'=w.alloc (cl #[gS s] 9):=by
 go_enter func245,ntmps245
 go_wp2;go_ret;exact⟨rfl,rfl⟩
end

section
open Go.RowKit
theorem zqy {z:Int}{n:Nat}(h:0<=z):(z%(n:Int)).toNat=z.natAbs%n:=by
 obtain⟨_,rfl⟩:=Int.eq_ofNat_of_zero_le h;rw[<-Int.natCast_emod];rfl
theorem zqz {z:Int}{n:Nat}(a:n≠0)(h:z<0):(z%(n:Int)).toNat=if z.natAbs%n=0 then 0 else n-z.natAbs%n:=by
 have hm:=Jz z.natAbs n;have a:=Z0 z.natAbs (show 0<n by omega);generalize z.natAbs/n=q at hm;generalize a:z.natAbs%n=r at *;have b:z=-((n:Int)*q+r):=by
  have a:(((n*q+r:Nat)):Int)=(n:Int)*q+r:=sp;omega
 by_cases a:r=0
 ·rw[zQ a,b,a];have:-((n:Int)*q+(0:Nat))=(n:Int)*(-q):=by grind
  rw[this,zcy];rfl
 ·rw[zO a,b];have:-((n:Int)*q+r)=((n:Int)-r)+(n:Int)*(-q-1):=by grind
  rw[this,Int.add_mul_emod_self_left,Int.emod_eq_of_lt om om];omega
theorem zho (K:Nat)(a:K<=1073741822)(d:zfj K)(w:H)(x v:Value)(z:Int)(n:Nat)(h:zy w x z)(k:NatV w v n)(o:n≠0)(q:z.natAbs<4294967296^K)(g:n<4294967296^K):
 C_ 169 #[x,v] w fun e w'=>∃s,e=Xa s/\NatV w' s (z%(n:Int)).toNat/\b_ w w':=by
 obtain⟨a,b,l,c,rfl,p,f⟩:=h.parts;have m:=Xm w (G a) (V b l c) 64;have i:b_ w (w.alloc (cl #[G a,V b l c] 64)):=(qf _ _).alloc (zh _) _;have j:z.natAbs%n<n:=Z0 _ om;go_enter func169,ntmps169
 go_wp2_with fail
 refine(d _ _ _ z.natAbs n (p.alloc _) (k.alloc _) q g).mono ?_;rintro e l ⟨s,r,rfl,_,b,d⟩;obtain⟨_,_,_,_,_⟩:=m.below d;have c:=i.trans (d.mono i.size);clear d;cases a with
 |false=>
  have d:0<=z:=by have:=f.out;simp at this;omega
  have a:=zf (zqy (n:=n) d);go_wp2;exact zH (v:=r) (by simp[results,results169,go_sem]) rfl ⟨r,rfl,by rw[a.out];exact b,c⟩
 |true=>
  have d:z<0:=by have:=f.out;simp at this;omega
  have a:=zqz o d;by_cases d:z.natAbs%n=0
  ·rw[zQ d]at a;have f:=zf a;clear a;rw[d]at b;go_wp2_with fail
   refine(JR _ _ b).mono ?_;rintro e i ⟨rfl,rfl⟩;go_wp2;exact zH (v:=r) (by simp[results,results169,go_sem]) rfl ⟨r,rfl,by rw[f.out];exact b,c⟩
  ·rw[zO d]at a;have f:=zf a;clear a;go_wp2_with fail
   refine(jW _ _ _ b d).mono ?_;rintro e i ⟨rfl,rfl⟩;go_wp2_with fail
   refine(zhd _ _ _ n (z.natAbs%n) K (k.below c) b g (zbr j g) om).mono ?_;rintro e a ⟨y,rfl,b,a⟩;go_wp2;exact zH (v:=y) (by simp[results,results169,go_sem]) rfl ⟨y,rfl,by rw[f.out];simpa[Nat.sub_eq_zero_of_le (zcw j)]using b,c.trans (a.mono c.size)⟩
section

variable {P:Program} (w:World)
theorem zoB (base:Nat)(t u ty e:TypeId)(i:TypeInfo)(ht:P.underlying t=some (.slice e))(hu:P.underlying u=some .string)(hi:P.info? e=some i)(hz:i.zero=some (.int .u8 0))
 (hsize:i.size=1) (hby:i.bytes=1) (v:Value) (n:Nat) (xs:List Value) (hown:w.ownsRowF base e 1 v n xs) (s:ByteArray)
 (h63:n+s.size<=maxLen) (hbytes:n+s.size<=140737488355328) (hn4:v= .slice none 0 0->s.size=0->∀v' w',(Builtin.append_ #[t,u] ty #[v,.string s]).run P w= .ok v' w'->v'= .slice none 0 0) {v':Value} {w':World}
 (hr:(Builtin.append_ #[t,u] ty #[v,.string s]).run P w= .ok v' w'):∀g,v'.ownBlock=some g->v.ownBlock=some g\/g=w.heap.size:=by
 intro g' hg';have hsmall:n+s.size<=9223372036854775807:=by simp only[maxLen]at h63;omega
 rcases hown.2 with ⟨rfl,rfl⟩|⟨g,cap,cur,fz,rfl,hbg,hg,hfz,hnc,hcm,hcs,htake⟩
 ·by_cases h0:s.size=0
  ·rw[hn4 rfl h0 v' w' hr]at hg';cases hg'
  ·have hr2:=run_append_nil_string (P:=P) w t u ty e i (.int .u8 0) ht hu hi hz s (by omega) (by omega) (by rw[hby];omega);rw[hr2]at hr;simp only[J1]at hr;obtain⟨rfl,rfl⟩:=hr;simp[Value.ownBlock]at hg';exact Or.inr hg'.symm
 ·have hxl:xs.length=n:=by simpa using hown.1
  by_cases hroom:n+s.size<=cap
  ·have hcs':cur.size=cap:=by simpa using hcs
   have hr2:=Lib.run_append_room_stringF (P:=P) w t u ty e i ht hu hi hsize g n cap cur fz hg (by simpa using hfz) s hroom (by omega);rw[hr2]at hr;simp only[J1]at hr;obtain⟨rfl,rfl⟩:=hr;exact Or.inl hg'
  ·have holds:∀j u,xs[j]? =some u->w.cell? ((⟨g,0,none⟩:Addr).add j)=some u:=hown.cells (g:=g) rfl;have hr2:=Lib.run_append_grow_string (P:=P) w t u ty e i (.int .u8 0) ht hu hi hz ⟨g,0,none⟩ n cap xs (by rw[hsize];simpa using hxl) holds s (by omega) (by omega) (by rw[hby];exact growslice_fits (by omega) (by omega));rw[hr2]at hr;simp only[J1]at hr;obtain⟨rfl,rfl⟩:=hr;simp[Value.ownBlock]at hg';exact Or.inr hg'.symm
theorem zfC {ops:Array Oper}{rest:List Oper}{o:Oper}{a:Act}{Q:Exit->Act->World->Prop}(hgd:o.guard=none)(sl x:Operand)(t u:TypeId)
 (ho:o.op= .call { callee:= .builtin .append,args:=#[sl,x],argTypes:=#[t,u] })
 (base:Nat) (e:TypeId) (i:TypeInfo) (ht:P.underlying t=some (.slice e)) (hu:P.underlying u=some .string) (hi:P.info? e=some i) (hz:i.zero=some (.int .u8 0))
 (hsize:i.size=1) (hby:i.bytes=1)
 (v:Value) (n:Nat) (xs:List Value) (hs:a.eval sl=v) (hown:w.ownsRowF base e 1 v n xs) (s:ByteArray) (hx:a.eval x= .string s)
 (h63:n+s.size<=maxLen) (hbytes:n+s.size<=140737488355328) (hbase:base<=w.heap.size)
 (h:∀v' w',w'.ownsRowF base e 1 v' (n+s.size) (xs++Lib.strCells s)->w.grownBy w' v.ownBlock->(∀g,v'.ownBlock=some g->v.ownBlock=some g\/g=w.heap.size)->wpList P ops Q rest (a.put o.dst v') w'):wpList P ops Q (o::rest) a w:=by
 refine wpList_plain hgd fun K hK=>?_
 obtain⟨v',w',hr,h2,h3,h4⟩:=Lib.run_append_own_stringF (P:=P) w base t u o.type e i ht hu hi hz hsize hby v n xs hown s h63 hbytes hbase;have h5:=zoB (P:=P) w base t u o.type e i ht hu hi hz hsize hby v n xs hown s h63 hbytes (fun e1 e2 v2 w2 hr2=>by
  rw[hr]at hr2;simp only[J1]at hr2;rw[<-hr2.1];exact h4.2 ⟨e1,e2⟩) hr
 unfold Oper.wp execOp;simp only[ho,resolve,invoke,builtin,Sem.run_bind,Sem.run_pure,Result.andThen_ok,List.map_toArray,Zk,zdJ,hs,hx,hr];exact hK _ _ (h v' w' h2 h3 h5)
end
variable {A:H}{B:Nat}{txt:U_}{v:Value}
def Bd (B tb:Nat)(txt:U_)(v:Value)(A:H):Prop:=
 B<=tb/\(∃p,(p=pn O\/p=p_ tb 0)/\A.heap[tb]? =E (cl #[p,v] 148 (0,0)))/\A.ownsRowF B 5 1 v (Lib.byteCells txt).length (Lib.byteCells txt)/\v.ownBlock≠E tb
theorem Bd.keep{b C:Nat}{a:H}(h:Bd B b txt v A)(d:zn C A a):Bd B b txt v a:=by
 obtain⟨a,⟨p,c,b⟩,j,e⟩:=h;refine⟨a,⟨p,c,(d.cells' b rfl).trans b⟩,?_,e⟩;obtain⟨b,a|⟨i,e,f,g,m,k,c,l⟩⟩:=j;·exact⟨b,Or.inl a⟩
 ·exact⟨b,Or.inr ⟨i,e,f,g,m,k,(d.cells' c rfl).trans c,l⟩⟩
theorem Bd.below{b:Nat}{a:H}(h:Bd B b txt v A)(hb:b_ A a):Bd B b txt v a:=h.keep (zn.of_below (B:=0) hb)
theorem Bd.lt{a:Nat}(h:Bd B a txt v A):a<A.heap.size/\∀g,v.ownBlock=E g->B<=g/\g<A.heap.size:=by
 obtain⟨_,⟨_,_,a⟩,b,_⟩:=h;exact⟨Jw a,fun g a=>b.lt g a⟩
theorem Bd.is{a:Nat}(h:Bd B a txt v A):Lib.IsBuilderF 148 5 B a (Lib.byteCells txt) A:=by
 obtain⟨a,⟨_,e,b⟩,c,d⟩:=h;rcases e with rfl|rfl
 ·exact Or.inl ⟨a,v,b,c,d⟩
 ·exact Or.inr ⟨a,v,b,c,d⟩
theorem zjd(B a:Nat)(txt:U_)(v:Value)(s:U_)(w:H)(h:Bd B a txt v w)(h1:txt.length+s.length<=140737488355328)(a7:B<=w.heap.size):
 C_ 79 #[p_ a 0,gS ⟨s.toArray⟩] w fun e w'=>(∃k,e=Xa (tp #[i_ k,.nilIface]))/\∃x,Bd B a (txt++s) x w'/\Below B w w'/\Wr (fun k=>k=a\/v.ownBlock=E k) w w'/\∀g,x.ownBlock=E g->v.ownBlock=E g\/w.heap.size<=g:=by
 obtain⟨i0,hi,a4,a5,a6⟩:=Zn Tryz.info5;have a8:=h.lt.1;obtain⟨y,⟨Q,M,i⟩,I,F⟩:=h;have J:(Lib.byteCells txt).length=txt.length:=by simp[Lib.byteCells]
 have N:=zdo s;have S:=zf (zdd txt s);obtain⟨b,hw1,hbk1,hwr1⟩:∃b,(Q=p_ a 0/\b=w\/Q=pn O/\b=w.setCell (Xd a 0 O) (p_ a 0))/\b.heap[a]? =E (cl #[p_ a 0,v] 148 (0,0))/\Wr (fun k=>k=a\/v.ownBlock=E k) w b:=by
  rcases M with rfl|rfl
  ·refine⟨_,Or.inr ⟨rfl,rfl⟩,?_,Xs (T:=fun k=>k=a\/v.ownBlock=E k) (Xj _ _) (p:=(Xd a 0 O)) (Or.inl rfl) _⟩;simp only[World.setCell,zby,zbu,i,qY];rfl
  ·exact⟨w,Or.inl ⟨rfl,rfl⟩,i,Xj _ _⟩
 have L:b.ownsRowF B 5 1 v (Lib.byteCells txt).length (Lib.byteCells txt):=by
  rcases hw1 with ⟨_,rfl⟩|⟨_,rfl⟩
  ·exact I
  ·obtain⟨l,h1|⟨g,f,p,q,c,m,A,D⟩⟩:=I;·exact⟨l,Or.inl h1⟩
   ·refine⟨l,Or.inr ⟨g,f,p,q,c,m,(qC _ _ _ _ (fun e=>F (by rw[c];simp[Value.ownBlock];exact e))).trans A,D⟩⟩
 have a9:b.heap.size=w.heap.size:=by rcases hw1 with ⟨_,rfl⟩|⟨_,rfl⟩<;>simp
 have a0:Below B w b:=by
  rcases hw1 with ⟨_,rfl⟩|⟨_,rfl⟩
  ·exact qf _ _
  ·exact(qf _ _).setCell (p:=(Xd a 0 O)) y _
 have U:Hid (C_ 138 #[p_ a 0] w fun e w'=>e=Xa (tp #[])/\w'=b):=by
  rcases hw1 with ⟨rfl,rfl⟩|⟨rfl,rfl⟩
  ·exact zgg a b (ze _ _ _ _ _ _ i)
  ·exact zfN a w (ze _ _ _ _ _ _ i) (by simp[World.shape?,i]) (ZK _ _ _ _ _ i)
 clear hw1 i I M;have c0:b.cell? (Xd a 0 O)=E (p_ a 0):=ze _ _ _ _ _ _ hbk1;have c1:b.cell? (Xd a 1 O)=E v:=ze _ _ _ _ _ _ hbk1;go_enter func79,ntmps79
 go_wp2_with fail
 refine U.out.mono ?_;rintro e R ⟨rfl,rfl⟩;go_wp2_with (at_builtin;refine zfC _ rfl _ _ 46 9 rfl B 5 i0 underlying46 underlying9 hi a4 a5 a6 _ _ _ rfl L ⟨s.toArray⟩ rfl ?c3 ?c4 ?c5 ?_)
 case c3=>rw[J,N];unfold maxLen;omega
 case c4=>rw[J,N];omega
 case c5=>omega
 intro x j t d z;have a3:a<R.heap.size:=om;have r:j.heap[a]? =E (cl #[p_ a 0,v] 148 (0,0)):=by
  rw[d.block a a3 (fun e=>F e.symm)];exact hbk1
 have d0:j.cell? (Xd a 0 O)=E (p_ a 0):=ze _ _ _ _ _ _ r;have d1:j.cell? (Xd a 1 O)=E v:=ze _ _ _ _ _ _ r;have f1:j.frozen? (Xd a 1 O)=false:=ZK _ _ _ _ _ r;obtain⟨o,u,f,rfl⟩:∃o u f,x=V o u f:=by
  rcases t.2 with ⟨c,_⟩|⟨g,f,p,q,c,_⟩
  ·exact⟨_,_,_,c⟩
  ·exact⟨_,_,_,c⟩
 have a1:Wr (fun k=>k=a\/v.ownBlock=E k) R j:=⟨d.os,d.tape,d.output,d.size,fun k C e=>d.block k C (fun X=>e (Or.inr X.symm))⟩;have Y:∀g,(V o u f).ownBlock=E g->v.ownBlock=E g\/w.heap.size<=g:=fun g m=>(z g m).imp id (fun e=>om)
 have K:(V o u f).ownBlock≠E a:=fun e=>by
  rcases z a e with e|e
  ·exact F e
  ·omega
 have Z:=a0.grown d om (fun k C=>(L.lt k C).1);rw[S.out]at t;have a2:txt.length+s.length=(Lib.byteCells (txt++s)).length:=by simp[Lib.byteCells]
 rw[a2]at t;clear z d;go_wp2;go_ret2;refine⟨⟨_,rfl⟩,_,⟨y,⟨_,Or.inr rfl,?_⟩,?_,K⟩,Z.setCell (p:=(Xd a 1 O)) y _,Xs (T:=fun k=>k=a\/v.ownBlock=E k) (hwr1.trans a1) (p:=(Xd a 1 O)) (Or.inl rfl) _,Y⟩
 ·simp only[World.setCell,zby,zbu,r,qY];rfl
 ·obtain⟨l,h1|⟨g,W,p,q,c,m,A,D⟩⟩:=t;·exact⟨l,Or.inl h1⟩
  ·exact⟨l,Or.inr ⟨g,W,p,q,c,m,(qC _ _ _ _ (fun e=>K (by rw[c];simp[Value.ownBlock];exact e))).trans A,D⟩⟩
