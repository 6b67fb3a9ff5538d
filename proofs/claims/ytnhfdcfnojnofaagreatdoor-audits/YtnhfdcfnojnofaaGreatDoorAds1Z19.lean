import Derived.Test.YtnhfdcfnojnofaaGreatDoorAds1Z18
open Option renaming none->O,some->E
open Go.Value renaming slice->V,bool->G,string->gS,pointer->pn,tuple->tp,int->it,agg->ag
open Go.Obj renaming cells->cl
open Go renaming World->H
open Go.Proofs.Tryz renaming prog->pg
open Go.Proofs.Tryz
set_option linter.unusedSimpArgs false
set_option linter.unusedVariables false
set_option maxHeartbeats 2000000
set_option maxRecDepth 100000
namespace Go.Proofs.YtnhfdcfnojnofaaGreatDoor
open Go.RowKit
theorem Row.kept {B:Nat}{w w':H}{b a:Nat}{ds:List Nat}(h:Row w b a ds)(c:zw B w w'):Row w' b a ds:=
 fun i a=>c.cell (h i a)
theorem NatV.keep {B:Nat}{w w':H}{v:Value}{n:Nat}(h:NatV w v n)(a:zw B w w'):NatV w' v n:=by
 obtain⟨d,⟨b,c,i,f,g⟩,e⟩:=h;refine⟨d,⟨b,c,i,f,fun f=>?_⟩,e⟩;obtain⟨b,i,c,d,e⟩:=g f;exact⟨b,i,c,zv d a.size,e.kept a⟩
theorem zY.keep {B:Nat}{w w':H}{x:Value}{z:Int}(h:zY w x z)(e:zw B w w'):zY w' x z:=by
 obtain⟨b,v,a,c,d⟩:=h;exact⟨b,v,a,c.keep e,d⟩
theorem qU.same {w w':H}{k:Nat}(h:qU w k)(a:w'.heap[k]? =w.heap[k]?):qU w' k:=by
 obtain⟨⟨o,d,c⟩,b⟩:=h;exact⟨⟨o,a.trans d,c⟩,fun p v c=>b p v ((zP (w:=w) a).symm.trans c)⟩
theorem qU.keep {B:Nat}{w w':H}{k:Nat}(h:qU w k)(c:zw B w w'):qU w' k:=by
 obtain⟨o,a,b⟩:=h.1;exact h.same ((c.block k o a (.inr b)).trans a.symm)
theorem qU.wr {T:Nat->Prop}{w w':H}{k:Nat}(h:qU w k)(c:Wr T w w')(b:¬T k):qU w' k:=by
 obtain⟨_,a,_⟩:=h.1;exact h.same (c.block k (zf.1 a).1 b)
theorem qU.setCell {w:H}{k p:Nat}{y:Value}(h:qU w k)(g:w.cell? ⟨k,p,O⟩=E y){v:Value}(f:∀n,v≠it .u32 n):qU (w.setCell ⟨k,p,O⟩ v) k:=by
 obtain⟨⟨o,c,_⟩,d⟩:=h;refine⟨?_,fun q u a n=>?_⟩
 ·obtain⟨e,b⟩:=zf.1 c;have c:k<(w.setCell ⟨k,p,O⟩ v).heap.size:=by simpa[World.setCell]using e
  refine⟨_,ZM c,?_⟩;simp only[World.setCell,Array.getElem_modify,jo,b];cases o<;>simp_all[Obj.isCells]
 ·by_cases b:p=q
  ·subst b;rw[zu _ _ _ g]at a;cases a;exact f n
  ·rw[zp _ _ _ _ (by intro e;injection e with _ c;exact b c)]at a;exact d q u a n
theorem NatV.wr {T:Nat->Prop}{w w':H}{v:Value}{n:Nat}(h:NatV w v n)(e:Wr T w w')(m:∀k,T k->qU w k):NatV w' v n:=by
 obtain⟨a,⟨b,c,i,f,g⟩,d⟩:=h;refine⟨a,⟨b,c,i,f,fun c=>?_⟩,d⟩;obtain⟨b,o,i,l,d⟩:=g c;have j:¬T b:=by
  intro f;have g:=Zq.2 c;exact(m b f).2 _ _ (d 0 g) _ rfl
 exact⟨b,o,i,zv l e.size,fun i a=>e.cell j (d i a)⟩
theorem zY.wr {T:Nat->Prop}{w w':H}{x:Value}{z:Int}(h:zY w x z)(f:Wr T w w')(e:∀k,T k->qU w k):zY w' x z:=by
 obtain⟨b,v,a,c,d⟩:=h;exact⟨b,v,a,c.wr f e,d⟩
def QK (w:H)(b o:Nat)(z:Int):Prop:=
 ∃x ao l c,w.cell? ⟨b,o,O⟩=E (G x)/\w.cell? ⟨b,o+1,O⟩=E (V ao l c)/\zY w (ag #[G x,V ao l c]) z/\w.frozen? ⟨b,o,O⟩=false/\w.frozen? ⟨b,o+1,O⟩=false
theorem QK.keep {B:Nat}{w w':H}{b o:Nat}{z:Int}(h:QK w b o z)(a:zw B w w'):QK w' b o z:=by
 obtain⟨x,e,l,f,c,d,g,i,j⟩:=h;exact⟨x,e,l,f,a.cell c,a.cell d,g.keep a,(a.frozen c).trans i,(a.frozen d).trans j⟩
theorem QK.below {w w':H}{b o:Nat}{z:Int}(h:QK w b o z)(a:Below w.heap.size w w'):QK w' b o z:=h.keep (B:=0) (zw.of_below a)
theorem QK.lt {w:H}{b o:Nat}{z:Int}(h:QK w b o z):b<w.heap.size:=by
 obtain⟨_,_,_,_,a,_⟩:=h;exact zN a
theorem QK.put {w:H}{b o:Nat}{z z':Int}{x:Bool}{a:Option Addr}{l c:Nat}(h:QK w b o z)(m:qU w b)(n:zY w (ag #[G x,V a l c]) z'):
 QK ((w.setCell ⟨b,o,O⟩ (G x)).setCell ⟨b,o+1,O⟩ (V a l c)) b o z':=by
 obtain⟨_,d,q,e,g,i,_,j,k⟩:=h;have f:(w.setCell ⟨b,o,O⟩ (G x)).cell? ⟨b,o+1,O⟩=E (V d q e):=by
  rw[zp _ _ _ _ (by intro e;injection e with _ d;omega)];exact i
 refine⟨x,a,l,c,?_,zu _ _ _ f,?_,by simpa using j,by simpa using k⟩
 ·rw[zp _ _ _ _ (by intro e;injection e with _ d;omega)];exact zu _ _ _ g
 ·exact n.wr (T:=fun k=>k=b) (((Wr.refl (fun k=>k=b) w).setCell (p:=⟨b,o,O⟩) rfl _).setCell (p:=⟨b,o+1,O⟩) rfl _) (fun k e=>e▸m)
theorem QK.other {w:H}{b o p:Nat}{z:Int}{x:Bool}{v:Value}(h:QK w b p z)(j:qU w b)(a:p+1<o\/o+1<p):
 QK ((w.setCell ⟨b,o,O⟩ (G x)).setCell ⟨b,o+1,O⟩ v) b p z:=by
 obtain⟨y,a,k,c,d,f,g,e,i⟩:=h;refine⟨y,a,k,c,?_,?_,?_,by simpa using e,by simpa using i⟩
 ·rw[zp _ _ _ _ (by intro e;injection e with _ a;omega),zp _ _ _ _ (by intro e;injection e with _ a;omega)];exact d
 ·rw[zp _ _ _ _ (by intro e;injection e with _ a;omega),zp _ _ _ _ (by intro e;injection e with _ a;omega)];exact f
 ·exact g.wr (T:=fun k=>k=b) (((Wr.refl (fun k=>k=b) w).setCell (p:=⟨b,o,O⟩) rfl _).setCell (p:=⟨b,o+1,O⟩) rfl _) (fun k e=>e▸j)
theorem zjd (s:ByteArray)(m:Nat)(w:H)(a:m<=1099511627776)(hs:s.size<=9223372036854775807)(h:s.data.toList= []\/m<s.size\/qZ s.data.toList=false):
 Calls pg 76 #[gS s,it .i64 (m:Nat)] w fun e w'=>e= .returned (tp #[V O 0 0,G false])/\w'=w:=by
 by_cases b:m<s.size
 ·have b:(m:Int)<(s.size:Int):=om;have b:((s.size:Int) == 0)=false:=qO.2 om;clear h;go_enter func76,ntmps76
  go_wp2;go_ret2;exact⟨rfl,rfl⟩
 ·exact zjS s m w a om h
theorem zfm (s:ByteArray)(m:Nat)(w:H)(I:m<=1000000000)(hs:s.size<=9223372036854775807)(h:T.okD (Lib.trimPrefix s.data.toList [45]) m=false):
 Calls pg 74 #[gS s,it .i64 (m:Nat)] w fun e w'=>∃b u l cap,e= .returned (tp #[ag #[G b,V u l cap],G false])/\Below w.heap.size w w':=by
 have n:qX (w.alloc (cl #[G false,V O 0 0] 101)) w.heap.size (G false) (V O 0 0):=qX.new _ _ _ _;have k:Below w.heap.size w (w.alloc (cl #[G false,V O 0 0] 101)):=(zR _ _).alloc (zh _) _;have c:=Tryz.strings_CutPrefix s ⟨#[45]⟩ (w.alloc (cl #[G false,V O 0 0] 101));have i:(ByteArray.mk #[45]).data.toList= [45]:=rfl;rw[i]at c;have F:(Lib.trimPrefix s.data.toList [45]).length<=s.size:=by
  rw[<-qN s,Lib.trimPrefix];split
  ·simp
  ·exact zh _
 generalize Lib.trimPrefix s.data.toList [45]=d at *;generalize Lib.hasPrefix s.data.toList [45]=J at *;have o:(ByteArray.mk d.toArray).data.toList= []\/m<(ByteArray.mk d.toArray).size\/qZ (ByteArray.mk d.toArray).data.toList=false:=by
  have e:(ByteArray.mk d.toArray).data.toList=d:=sp;rw[e,Jc];unfold T.okD at h;by_cases j:d= []
  ·exact Or.inl j
  ·by_cases z:d.length<=m
   ·rw[qH j,qH z,ZE,ZE]at h;exact Or.inr (Or.inr h)
   ·exact Or.inr (Or.inl om)
 have t:=zi (fun W=>zjd ⟨d.toArray⟩ m W om (by rw[Jc];omega) o);have r:=zi c;clear c i o h;go_enter func74,ntmps74
 go_wp2_with fail
 refine r.out.mono ?_;rintro e K ⟨rfl,rfl⟩;go_wp2_with fail
 refine(t.out _).mono ?_;rintro e L ⟨rfl,rfl⟩;go_wp2_with fail
 refine(jw _ _ _ _ (NatV.zero _ _ _)).mono ?_;rintro e D ⟨_,rfl,C,a⟩;obtain⟨g,f,q,p,rfl,_,_⟩:=C.parts;have B:=n.below a;have A:=k.trans (a.mono k.size);obtain⟨x,y,_,_,_⟩:=B;clear a n;go_wp2;exact zH (v:=tp #[ag #[G g,V f q p],G false]) (by simp[results,results74,go_sem,x,y]) rfl ⟨g,f,q,p,rfl,(A.setCell sp _).setCell sp _⟩
theorem zje {c:UInt8}(b:c≠47)(r:List UInt8):Lib.cut (c::r) [47]=(c::(Lib.cut r [47]).1,(Lib.cut r [47]).2.1,(Lib.cut r [47]).2.2):=by
 by_cases h:∃k,∃d:k<r.length,r[k]=47/\∀i (h:i<k),r[i]' om≠47
 ·obtain⟨k,d,a,e⟩:=h;rw[T.zno d a e];rw[T.zno (T:=c::r) (k:=k+1) so (by simpa using a) (by
   intro i a;cases i with
   |zero=>simpa using b
   |succ i=>simpa using e i om)]
  simp
 ·have d:∀i (h:i<r.length),r[i]≠47:=by
   intro i;induction i using Nat.strongRecOn with
   |_ i f=>exact fun a e=>h ⟨i,a,e,fun j e=>f j e om⟩
  rw[T.zog d];rw[T.zog (T:=c::r) (by
   intro i a;cases i with
   |zero=>simpa using b
   |succ i=>simpa using d i (by simpa using a))]
theorem zjf (L:List UInt8):Lib.cut (Lib.trimPrefix L [45]) [47]=(Lib.trimPrefix (Lib.cut L [47]).1 [45],(Lib.cut L [47]).2.1,(Lib.cut L [47]).2.2)/\Lib.hasPrefix L [45]=Lib.hasPrefix (Lib.cut L [47]).1 [45]:=by
 cases L with
 |nil=>exact⟨rfl,rfl⟩
 |cons c r=>
  by_cases a:c=45
  ·subst a;rw[zje dc];simp[Lib.trimPrefix,Lib.hasPrefix]
  ·have b:Lib.hasPrefix (c::r) [45]=false:=by simp[Lib.hasPrefix,List.isPrefixOf,Qi a]
   have d:Lib.trimPrefix (c::r) [45]=c::r:=by rw[Lib.trimPrefix,b];rfl
   rw[d,b];have d:Lib.hasPrefix (Lib.cut (c::r) [47]).1 [45]=false:=by
    by_cases b:c=47
    ·rw[T.zno (T:=c::r) (k:=0) sp (by simpa using b) (by intro i c;omega)];rfl
    ·rw[zje b];simp[Lib.hasPrefix,List.isPrefixOf,Qi a]
   refine⟨?_,d.symm⟩;rw[Lib.trimPrefix,d];rfl
theorem zbS {l:List UInt8}{m:Nat}(h:T.okD l m=true):0<l.length/\l.length<=m/\qZ l=true:=by
 unfold T.okD at h;simp only[ZQ,Qw]at h;exact⟨Zq.2 h.1,h.2.1,h.2.2⟩
theorem zkr {l:List UInt8}{m:Nat}(h:T.okD l m=false):(ByteArray.mk l.toArray).data.toList= []\/m<(ByteArray.mk l.toArray).size\/qZ (ByteArray.mk l.toArray).data.toList=false:=by
 have e:(ByteArray.mk l.toArray).data.toList=l:=sp;rw[e,Jc];unfold T.okD at h;by_cases a:l= []
 ·exact Or.inl a
 ·by_cases b:l.length<=m
  ·rw[qH a,qH b,ZE,ZE]at h;exact Or.inr (Or.inr h)
  ·exact Or.inr (Or.inl om)
theorem zf7 (L:List UInt8):(Lib.cut L [47]).1.length<=L.length/\(Lib.cut L [47]).2.1.length<=L.length:=by
 unfold Lib.cut;split
 ·refine⟨?_,?_⟩
  ·show(L.take _).length<=L.length
   rw[zU];omega
  ·show(L.drop _).length<=L.length
   rw[qu];omega
 ·simp
theorem qk.same {w:H}{g:Nat}(h:qk w g (G false) (V O 0 0) (V O 0 0)):qk (((w.setCell ⟨g,0,O⟩ (G false)).setCell ⟨g,1,O⟩ (V O 0 0)).setCell ⟨g,2,O⟩ (V O 0 0)) g (G false) (V O 0 0) (V O 0 0):=T.qk.stored h
theorem zkX (s:List UInt8)(w:H)(hs:s.length<=1000000):
 Calls pg 74 #[gS ⟨s.toArray⟩,it .i64 40] w fun e w'=>∃b a l c,e= .returned (tp #[ag #[G b,V a l c],G (dOk s)])/\Below w.heap.size w w'/\(dOk s=true->zY w' (ag #[G b,V a l c]) (T.wZ s)):=by
 by_cases h:dOk s=true
 ·obtain⟨d,f,g⟩:=zbS h;refine(zeR ⟨s.toArray⟩ 40 w om d f g).mono ?_;rintro e w' ⟨_,rfl,d,f⟩;obtain⟨b,a,l,c,rfl,_,_⟩:=d.parts;exact⟨b,a,l,c,by rw[h],f,fun _=>d⟩
 ·have d:dOk s=false:=by simpa using h
  refine(zfm ⟨s.toArray⟩ 40 w om (by simp[ByteArray.size];omega) d).mono ?_;rintro e w' ⟨b,a,l,c,rfl,f⟩;exact⟨b,a,l,c,by rw[d],f,fun e=>by rw[d]at e;cases e⟩
theorem zeS (s:List UInt8)(q b o:Nat)(z:Int)(w:H)(h:w.cell? ⟨q,0,O⟩=E (pn (E ⟨b,o,O⟩)))(a:QK w b o z)(g:q≠b)(hs:s.length<=1000000):
 Calls pg 366 #[gS ⟨s.toArray⟩,pn (E ⟨q,0,O⟩)] w fun e w'=>e= .returned (G (dOk s))/\
  ∃d x f l c,Below w.heap.size w d/\w'=(d.setCell ⟨b,o,O⟩ (G x)).setCell ⟨b,o+1,O⟩ (V f l c)/\(dOk s=true->zY d (ag #[G x,V f l c]) (T.wZ s)):=by
 have g:Tryz.prog.follows .mixedOrders=true:=kr;have n:q<w.heap.size:=zN h;have g:=a.lt;obtain⟨_,_,_,_,r,t,_,k,m⟩:=a;have a:=zi (fun W=>zkX s W hs);have j:Hid (∃i,dOk s=i):=⟨_,rfl⟩;obtain⟨i,i⟩:=j.out;rw[i]at a⊢;go_enter func366,ntmps366
 go_wp2;go_region_held (fun W=>W.cell? ⟨q,0,O⟩=E (pn (E ⟨b,o,O⟩))) (first|assumption|((rw[far,far]<;>first|assumption|omega))|go_keep)
  (first|(go_at_call 74;refine(a.out _).mono ?_;rintro e d ⟨x,f,l,c,rfl,a,i⟩;have j:=(a.cell (p:=⟨q,0,O⟩) n).trans h;have j:=(a.cell (p:=⟨b,o,O⟩) g).trans r;have j:=(a.cell (p:=⟨b,o+1,O⟩) g).trans t;have j:=(a.frozen (p:=⟨b,o,O⟩) g).trans k;have j:=(a.frozen (p:=⟨b,o+1,O⟩) g).trans m))
 go_wp2;go_ret;exact⟨rfl,d,x,f,l,c,⟨a.os,a.tape,a.output,a.size,a.block⟩,rfl,i⟩
section
variable {P:Program} (w:World)
end
def Bd (B tb:Nat)(txt:List UInt8)(v:Value)(A:H):Prop:=
 B<=tb/\(∃p,(p=pn O\/p=pn (E ⟨tb,0,O⟩))/\A.heap[tb]? =E (cl #[p,v] 140 (0,0)))/\A.ownsRowF B 5 1 v (Lib.byteCells txt).length (Lib.byteCells txt)/\v.ownBlock≠E tb
theorem Bd.keep {B a C:Nat}{txt:List UInt8}{v:Value}{A A':H}(h:Bd B a txt v A)(d:zw C A A'):Bd B a txt v A':=by
 obtain⟨a,⟨p,c,b⟩,j,e⟩:=h;refine⟨a,⟨p,c,(d.cells' b rfl).trans b⟩,?_,e⟩;obtain⟨b,a|⟨i,e,f,g,m,k,c,l⟩⟩:=j;·exact⟨b,Or.inl a⟩
 ·exact⟨b,Or.inr ⟨i,e,f,g,m,k,(d.cells' c rfl).trans c,l⟩⟩
theorem Bd.below {B a:Nat}{txt:List UInt8}{v:Value}{A A':H}(h:Bd B a txt v A)(b:Below A.heap.size A A'):Bd B a txt v A':=h.keep (zw.of_below (B:=0) b)
theorem Bd.lt {B a:Nat}{txt:List UInt8}{v:Value}{A:H}(h:Bd B a txt v A):a<A.heap.size/\∀g,v.ownBlock=E g->B<=g/\g<A.heap.size:=by
 obtain⟨_,⟨_,_,a⟩,b,_⟩:=h;exact⟨jn a,fun g a=>b.lt g a⟩
theorem Bd.is {B a:Nat}{txt:List UInt8}{v:Value}{A:H}(h:Bd B a txt v A):Lib.IsBuilderF 140 5 B a (Lib.byteCells txt) A:=by
 obtain⟨a,⟨_,e,b⟩,c,d⟩:=h;rcases e with rfl|rfl
 ·exact Or.inl ⟨a,v,b,c,d⟩
 ·exact Or.inr ⟨a,v,b,c,d⟩
end Go.Proofs.YtnhfdcfnojnofaaGreatDoor
namespace Go.Proofs.YtnhfdcfnojnofaaGreatDoor.T
open Go.RowKit
def PartR (L:List UInt8)(w:H)(e:Ending)(w':H):Prop:=
 ∃(n:Nat) (b:Bool) (ao:Option Addr) (l cap:Nat) (ao':Option Addr) (l' cap':Nat),e= .returned (tp #[ag #[it .i64 (n:Nat),G b,V ao l cap,V ao' l' cap'],G (QG L)])/\n<=1125899906842624/\
  (QG L=true->n=min (partN L) 1125899906842624/\qe w' (ag #[G b,V ao l cap,V ao' l' cap']) (partP L) (partQ L))/\Below w.heap.size w w'
theorem zfn {L:List UInt8}{i:Nat}(h:i<(Lib.cut L [58]).1.length)(a:¬(48<=(Lib.cut L [58]).1[i].toNat/\(Lib.cut L [58]).1[i].toNat<=57)):QG L=false:=by
 cases hp:QG L with
 |false=>rfl
 |true=>
  unfold QG okD at hp;simp only[ZQ]at hp;exact absurd (zcF hp.1.2.2 i h) a
theorem zgn {L:List UInt8}(h:(Lib.cut L [58]).1= []\/(Lib.cut L [58]).2.2=false):QG L=false:=by
 rcases h with h|h
 ·unfold QG okD;rw[h];rfl
 ·have a:(Lib.cut L [58]).2.1= []:=by rw[zb0 h]
  unfold QG;rw[a];have:zaP (Lib.trimPrefix [] [45]) L.length=false:=rfl;rw[this,Bool.and_false]
theorem zbT {w:H}{x:Value}{p:Int}{q g:Nat}(h:qe w x p q)(e:¬QE w g)(a b c d:Value):qe ((((w.setCell ⟨g,0,O⟩ a).setCell ⟨g,1,O⟩ b).setCell ⟨g,2,O⟩ c).setCell ⟨g,3,O⟩ d) x p q:=by
 have f:=QY (a:=⟨g,0,O⟩) (v:=a) e;have i:=QY (a:=⟨g,1,O⟩) (v:=b) f;have j:=QY (a:=⟨g,2,O⟩) (v:=c) i;exact(((h.kept (QH.of_setCell (a:=⟨g,0,O⟩) e a)).kept (QH.of_setCell (a:=⟨g,1,O⟩) f b)).kept (QH.of_setCell (a:=⟨g,2,O⟩) i c)).kept (QH.of_setCell (a:=⟨g,3,O⟩) j d)
theorem znv (s:ByteArray)(w:H)(hs:s.size<=20000):Calls pg 296 #[gS s] w (PartR s.data.toList w):=by
 obtain⟨L,hL⟩:∃L,s.data.toList=L:=⟨_,rfl⟩;have ax:L.length=s.size:=by rw[<-hL];exact qN s
 have d:∀(i:Nat) (h:i<s.size),s[i]=L[i]' om:=by
  subst hL;intro i h;rfl
 rw[hL];have HK:=zi (cut_le 58 L);have a8:=zi (fun h=>znr (c:=58) (l:=L) h);have a5:=zi (fun i h=>cut_at (c:=58) (l:=L) (i:=i) h);have ap:=zi (zm9 58 L);have ar:=zi (znq (c:=58) (l:=L));go_enter func296,ntmps296
 go_wp2_with fail
 have y:Below w.heap.size w (w.alloc (cl #[it .i64 0,G false,V O 0 0,V O 0 0] 410)):=(zR _ _).alloc (zh _) _;have F:=zq w (cl #[it .i64 0,G false,V O 0 0,V O 0 0] 410);have A:=c_ 0 F;have B:=c_ 1 F;have C:=c_ 2 F;have D:=c_ 3 F;have N:∀j,(w.alloc (cl #[it .i64 0,G false,V O 0 0,V O 0 0] 410)).frozen? ⟨w.heap.size,j,O⟩=false:=fun j=>World.frozen?_alloc_at _ _ _ _ rfl
 have z0:=N 0;have z1:=N 1;have z2:=N 2;have z3:=N 3;have ae:w.heap.size<(w.alloc (cl #[it .i64 0,G false,V O 0 0,V O 0 0] 410)).heap.size:=sp;have aI:¬QE (w.alloc (cl #[it .i64 0,G false,V O 0 0,V O 0 0] 410)) w.heap.size:=by
  rintro⟨a9,fr,U⟩;rw[F]at U;simp at U
 clear N F;generalize w.alloc (cl #[it .i64 0,G false,V O 0 0,V O 0 0] 410)=wR at *;generalize Q:w.heap.size=r at *;obtain⟨K,x⟩:∃K,(Lib.cut L [58]).1.length=K:=⟨_,rfl⟩;have an:Hid (K<=L.length):=by rw[<-x];exact HK.out
 have al:=zi x;clear x HK;go_loopw [4] (fun iv wr=>∃i:Nat,iv=it .i64 (i:Nat)/\i<=K/\Hid (qZ (L.take i)=true)/\wr=wR) (fun iv _=>s.size-(intOf iv).toNat)
 case atStart=>exact⟨0,rfl,om,rfl,rfl⟩
 case round=>
  obtain⟨i,rfl,_,Z,aL⟩:=hrel;subst aL;have aM:=an.out;have x:=al.out;by_cases X:i<s.size
  ·have aT:(i:Int)<(s.size:Int):=om;by_cases J:(s[i].toNat:Int)=58
   ·have ad:i=K:=by
     by_cases af:i<K
     ·obtain⟨I,c⟩:=a5.out i om;have S:=ap.out _ (zZ (l:=(Lib.cut L [58]).1) (n:=i) om);rw[<-c,<-d i X]at S;exact absurd (JY (show s[i].toNat=58 by omega)) S
     ·omega
    subst ad;obtain⟨_,_,W⟩:=a8.out om;rw[x]at W;have Y:=ar.out;rw[x]at Y;by_cases aD:i=0
    ·have b:Hid (QG L=false):=zgn (Or.inl (ZP om));subst aD;have hq:((s[0].toNat:Int) != 58)=false:=by rw[J];rfl
     clear d;go_wp2_with fail
     exact zH (v:=tp #[ag #[it .i64 0,G false,V O 0 0,V O 0 0],G false]) (by simp[results,results296,go_sem,A,B,C,D]) rfl ⟨0,false,O,0,0,O,0,0,by rw[b.out];rfl,om,fun h=>absurd (b.out.symm.trans h) dc,by rw[Q];exact(((y.setCell (zh _) _).setCell (zh _) _).setCell (zh _) _).setCell (zh _) _⟩
    ·have aE:¬(i:Int)=0:=om;have aF:¬(i:Int)=(s.size:Int):=om;have aC:(s.extract (i+1) s.size).data.toList=(Lib.cut L [58]).2.1:=by rw[QP,hL,W,zy];rw[<-W,qu];omega
     have a0:=zi (fun au=>read_any (s.extract (i+1) s.size) s.size au (by rw[ByteArray.size_extract];omega) om);rw[aC]at a0;have aS:(i:Int)+1<=(s.size:Int):=om;have hq:((s[i].toNat:Int) != 58)=false:=by rw[J];rfl
     have aQ:((i:Int) == 0)=false:=by simpa using aE
     have aR:((i:Int) == (s.size:Int))=false:=by simpa using aF
     have HG:Hid (∀j,j<i->∃h:j<s.size,48<=s[j].toNat/\s[j].toNat<=57/\qd (L.take (j+1))=qd (L.take j)*10+(s[j].toNat-48)):=by
      intro j hj;have a2:j<s.size:=om;have I:=zcF Z.out j (by rw[zU];omega);rw[zb5]at I;refine⟨a2,?_⟩;rw[d j a2];exact⟨I.1,I.2,zco L j om⟩
     have a7:Hid (QG L=zaP (Lib.trimPrefix (Lib.cut L [58]).2.1 [45]) s.size):=by
      have hd:=Z.out;unfold QG okD;rw[<-Y,hd,ax,zU,qH (by intro aa;have T:=Zt List.length aa;rw[zU,jL]at T;omega),qH om];rfl
     have aq:Hid (partN L=qd (L.take i)):=by rw[Hid,partN,Y]
     clear d W Y;go_wp2_with fail
     refine(a0.out _).mono ?_;rintro aa e ⟨l,f,p,m,g,q,o,rfl,ai,a1⟩;have x1:Ext e (e.alloc (cl #[G l,V f p m,V g q o] 118)):=(Ext.refl e).alloc _;have aB:=qk.new e (G l) (V f p m) (V g q o) 118;have ay:=y.trans (a1.mono om);clear a0;have t:=(Ext.of a1).trans x1;have d0:=t.cell A;have d1:=t.cell B;have d2:=t.cell C;have d3:=t.cell D;have M:=fun j=>zt (w:=wr) (a:=⟨r,j,O⟩) (t.block r ae)
     have y0:=(M 0).trans z0;have y1:=(M 1).trans z1;have y2:=(M 2).trans z2;have y3:=(M 3).trans z3;have az:=y.trans (t.mono om);have aj:zaP (Lib.trimPrefix (Lib.cut L [58]).2.1 [45]) s.size=true->qe (e.alloc (cl #[G l,V f p m,V g q o] 118)) (ag #[G l,V f p m,V g q o]) (partP L) (partQ L):=fun h=>(ai h).below x1
     have aH:¬QE (e.alloc (cl #[G l,V f p m,V g q o] 118)) r:=by
      rintro⟨a9,fr,U⟩;exact aI ⟨a9,fr,(t.block r ae).symm.trans U⟩
     clear M ai ay a1 x1 t A B C D z0 z1 z2 z3 y;obtain⟨_,_,_,_,_,_,_⟩:=aB;go_wp2_with fail
     generalize e.alloc (cl #[G l,V f p m,V g q o] 118)=w2 at *;generalize e.heap.size=g1 at *;go_loopw [7,8] (fun nv jv wq=>∃j:Nat,jv=it .i64 (j:Nat)/\j<=i/\nv=it .i64 ((min (qd (L.take j)) 1125899906842624:Nat):Int)/\wq=w2) (fun _ jv _=>i-(intOf jv).toNat)
     case atStart=>exact⟨0,rfl,om,rfl,rfl⟩
     case round=>
      obtain⟨j,rfl,_,rfl,aK⟩:=hrel;subst aK;by_cases aG:j<i
      ·obtain⟨a2,av,aw,ab⟩:=HG.out j aG;have aU:(j:Int)<(i:Int):=om;have aV:(j:Int)<(s.size:Int):=om;generalize aO:s[j].toNat=u at *;have a3:=zns (qd (L.take j)) (u-48) 1125899906842624;rw[<-ab]at a3;generalize qd (L.take j)=a4 at *;have a6:=zi a3;have aW:min a4 1125899906842624<=1125899906842624:=Nat.min_le_right _ _;generalize min a4 1125899906842624=z at *;have aX:IntKind.u8.wrap ((u:Int)-48)=((u-48:Nat):Int):=by
        obtain⟨k,rfl⟩:∃k,u=k+48:=⟨u-48,om⟩;have:k<=9:=om;obtain rfl|rfl|rfl|rfl|rfl|rfl|rfl|rfl|rfl|rfl:k=0\/k=1\/k=2\/k=3\/k=4\/k=5\/k=6\/k=7\/k=8\/k=9:=om
        all_goals rfl
       have aP:u-48<=9:=om;generalize u-48=R at *;clear a3 ab;by_cases aN:1125899906842624<z*10+R
       ·have HN:Hid (min (qd (L.take (j+1))) 1125899906842624=1125899906842624):=by rw[Hid,<-a6.out];omega
        have aA:(1125899906842624:Int)<10*(z:Int)+(R:Int):=om;go_wp2_with fail
        go_roundw
        case rel=>exact⟨j+1,by go_num,om,by rw[HN.out];rfl,by first|rfl|trivial⟩
        case measure=>simp[intOf];omega
       ·have HN:Hid (min (qd (L.take (j+1))) 1125899906842624=z*10+R):=by rw[Hid,<-a6.out];omega
        have aA:¬(1125899906842624:Int)<10*(z:Int)+(R:Int):=om;go_wp2_with fail
        go_roundw
        case rel=>exact⟨j+1,by go_num,om,by rw[HN.out];go_num,by first|rfl|trivial⟩
        case measure=>simp[intOf];omega
      ·obtain rfl:j=i:=om;have ah:min (qd (L.take j)) 1125899906842624<=1125899906842624:=Nat.min_le_right _ _;rw[<-aq.out]at ah⊢;generalize aJ:min (partN L) 1125899906842624=z at *;rw[<-a7.out];rw[<-a7.out]at aj;go_wp2_with fail
       exact zH (v:=tp #[ag #[it .i64 (z:Nat),G l,V f p m,V g q o],G (QG L)]) (by simp[results,results296,go_sem,d0,d1,d2,d3]) rfl ⟨z,l,f,p,m,g,q,o,rfl,ah,fun h=>⟨aJ.symm,zbT (aj h) aH _ _ _ _⟩,by rw[Q];exact(((az.setCell (zh _) _).setCell (zh _) _).setCell (zh _) _).setCell (zh _) _⟩
   ·have ad:i<K:=by
     by_cases af:i<K
     ·exact af
     ·obtain rfl:i=K:=om;obtain⟨_,c,_⟩:=a8.out om;have S:L[(Lib.cut L [58]).1.length]' om=s[i]:=by rw[d i X];simp only[x]
      rw[S]at c;rw[c]at J;exact absurd rfl J
    obtain⟨I,c⟩:=a5.out i om;rw[<-d i X]at c;have hq:((s[i].toNat:Int) != 58)=true:=by simpa using J
    by_cases av:(s[i].toNat:Int)<48
    ·have b:Hid (QG L=false):=zfn (i:=i) om (by rw[<-c];omega);clear d c;go_wp2_with fail
     exact zH (v:=tp #[ag #[it .i64 0,G false,V O 0 0,V O 0 0],G false]) (by simp[results,results296,go_sem,A,B,C,D]) rfl ⟨0,false,O,0,0,O,0,0,by rw[b.out];rfl,om,fun h=>absurd (b.out.symm.trans h) dc,by rw[Q];exact(((y.setCell (zh _) _).setCell (zh _) _).setCell (zh _) _).setCell (zh _) _⟩
    ·by_cases aw:(57:Int)<(s[i].toNat:Int)
     ·have b:Hid (QG L=false):=zfn (i:=i) om (by rw[<-c];omega);clear d c;go_wp2_with fail
      exact zH (v:=tp #[ag #[it .i64 0,G false,V O 0 0,V O 0 0],G false]) (by simp[results,results296,go_sem,A,B,C,D]) rfl ⟨0,false,O,0,0,O,0,0,by rw[b.out];rfl,om,fun h=>absurd (b.out.symm.trans h) dc,by rw[Q];exact(((y.setCell (zh _) _).setCell (zh _) _).setCell (zh _) _).setCell (zh _) _⟩
     ·have ak:Hid (qZ (L.take (i+1))=true):=by
       rw[Hid,zfJ _ i om,zdF,Z.out,<-d i X];simp[qZ,zch];omega
      clear d c;go_wp2_with fail
      go_roundw
      case rel=>exact⟨i+1,by go_num,om,ak,by first|rfl|trivial⟩
      case measure=>simp[intOf];omega
  ·obtain rfl:i=s.size:=om;have b:Hid (QG L=false):=by
    refine zgn (Or.inr ?_);cases hb:(Lib.cut L [58]).2.2 with
    |false=>rfl
    |true=>
     have T:=zao 58 L;rw[hb]at T;simp at T;omega
   clear d;go_wp2_with fail
   all_goals exact zH (v:=tp #[ag #[it .i64 0,G false,V O 0 0,V O 0 0],G false]) (by simp[results,results296,go_sem,A,B,C,D]) rfl ⟨0,false,O,0,0,O,0,0,by rw[b.out];rfl,om,fun h=>absurd (b.out.symm.trans h) dc,by rw[Q];exact(((y.setCell (zh _) _).setCell (zh _) _).setCell (zh _) _).setCell (zh _) _⟩
end Go.Proofs.YtnhfdcfnojnofaaGreatDoor.T
namespace Go.Proofs.YtnhfdcfnojnofaaGreatDoor
open Go.RowKit
theorem zg2 {w w':H}{B e size n:Nat}{v:Value}{a:List Value}(h:w.ownsRow B e size v n a)(hs:w.heap.size<=w'.heap.size)(p:∀g,v.ownBlock=E g->w'.heap[g]? =w.heap[g]?):w'.ownsRow B e size v n a:=by
 obtain⟨a,f|⟨g,c,d,b,l,m,o,i,j,k⟩⟩:=h;·exact⟨a,Or.inl f⟩
 ·exact⟨a,Or.inr ⟨g,c,d,b,l,(p g (by rw[b];rfl)).trans m,o,i,j,k⟩⟩
theorem qT {w:H}{g i j:Nat}{v u:Value}(h:w.cell? ⟨g,j,O⟩=E u)(a:i≠j):(w.setCell ⟨g,i,O⟩ v).cell? ⟨g,j,O⟩=E u:=by
 rw[zp _ _ _ _ (by intro e;injection e with _ a;omega)];exact h
structure Pen (B:Nat)(w:H)(l:List (Value×Nat×List Value)):Prop where
 own:∀(k:Nat) (v:Value) (t:Nat) (xs:List Value),l[k]? =E (v,t,xs)->w.ownsRow B t 1 v xs.length xs
 apart:∀(j k:Nat) (r q:Value×Nat×List Value),l[j]? =E r->l[k]? =E q->j≠k->∀g,r.1.ownBlock=E g->q.1.ownBlock≠E g
theorem Pen.same {B:Nat}{w w':H}{l:List (Value×Nat×List Value)}(h:Pen B w l)(hs:w.heap.size<=w'.heap.size)(c:∀g,B<=g->g<w.heap.size->w'.heap[g]? =w.heap[g]?):Pen B w' l:=
 ⟨fun k v t b a=>zg2 (h.own k v t b a) hs (fun g d=>by have:=(h.own k v t b a).lt g d;exact c g this.1 this.2),h.apart⟩
theorem Pen.grow {B:Nat}{w w':H}{l:List (Value×Nat×List Value)}{k g cap t:Nat}{v x:Value}{a:List Value}(h:Pen B w l)(o:l[k]? =E (v,t,a))(u:w.grownBy w' v.ownBlock)
 (ho:w'.ownsRow B t 1 (V (E ⟨g,0,O⟩) (a.length+1) cap) (a.length+1) (a ++ [x])) (c:v.ownBlock=E g\/g=w.heap.size):Pen B w' (l.set k (V (E ⟨g,0,O⟩) (a.length+1) cap,t,a ++ [x])):=by
 have b:=(zn.1 o).1;have p:(l.set k (V (E ⟨g,0,O⟩) (a.length+1) cap,t,a ++ [x]))[k]? =E (V (E ⟨g,0,O⟩) (a.length+1) cap,t,a ++ [x]):=by rw[jm b]
 have i:∀j,j≠k->(l.set k (V (E ⟨g,0,O⟩) (a.length+1) cap,t,a ++ [x]))[j]? =l[j]?:=fun j a=>Q7 (Qi a)
 have s:∀j q,j≠k->l[j]? =E q->q.1.ownBlock≠E g:=by
  intro j q a b e;rcases c with f|f
  ·exact h.apart j k q _ b o a g e f
  ·have:=((h.own j q.1 q.2.1 q.2.2 b).lt g e).2;omega
 refine⟨fun j A z C a=>?_,fun m j y q c a n d b=>?_⟩
 ·by_cases e:j=k
  ·subst e;rw[p]at a;simp only[z7,zdG]at a;obtain⟨rfl,rfl,rfl⟩:=a;rw[zX,qF];exact ho
  ·rw[i j e]at a;have r:=h.own j A z C a;refine zg2 r u.size (fun d b=>?_);have z:=r.lt d b;exact u.block d z.2 (fun f=>h.apart j k _ _ a o e d b f.symm)
 ·by_cases f:m=k
  ·subst f;rw[p]at c;simp only[z7]at c;subst c;rw[i j (Qi n)]at a;simp[Value.ownBlock]at b;subst b;exact s j q (Qi n) a
  ·rw[i m f]at c;by_cases o:j=k
   ·subst o;rw[p]at a;simp only[z7]at a;subst a;intro e;simp[Value.ownBlock]at e;subst e;exact s m y f c b
   ·rw[i j o]at a;exact h.apart m j y q c a n d b
structure Sm (B gf gp:Nat)(w0 w:H)(s:ByteArray)(a:Nat)(l tl:List (Value×Nat×List Value)):Prop where
 lt:w0.heap.size<=gf/\gf<B/\w0.heap.size<=gp/\gp<B/\gf≠gp
 le:B<=w.heap.size
 fd:qX w gf (gS s) (it .i64 (a:Nat))
 sz:a<=s.size
 box:∀(k:Nat) (r:Value×Nat×List Value),l[k]? =E r->w.cell? ⟨gp,k,O⟩=E r.1/\w.frozen? ⟨gp,k,O⟩=false
 pen:Pen B w (l++tl)
 low:Below w0.heap.size w0 w
theorem Sm.next {B c b:Nat}{f w w':H}{s:ByteArray}{a a':Nat}{l e:List (Value×Nat×List Value)}(h:Sm B c b f w s a l e)(i:qX w' c (gS s) (it .i64 (a':Nat)))(g:a'<=s.size)(d:Wr (fun k=>k=c) w w'):Sm B c b f w' s a' l e:=by
 have e:=h.lt;have f:b<w.heap.size:=by have:=h.le;omega
 have j:¬b=c:=fun c=>e.2.2.2.2 c.symm
 refine⟨h.lt,zL h.le d.size,i,g,fun k r c=>?_,h.pen.same d.size (fun g i i=>d.block g i om),h.low.trans (d.below h.low.size (fun k c=>by rw[c];exact e.1))⟩;have e:=d.block b f j;exact⟨(zP (w:=w) (a:=⟨b,k,O⟩) e).trans (h.box k r c).1,(zt (w:=w) (a:=⟨b,k,O⟩) e).trans (h.box k r c).2⟩
theorem Sm.grown {B d f:Nat}{g w w':H}{s:ByteArray}{a:Nat}{l n l2 e:List (Value×Nat×List Value)}{row:Option Nat}(h:Sm B d f g w s a l n)(c:w.grownBy w' row)(j:∀b,row=E b->B<=b)(m:Pen B w' (l2++e))(i:∀k r,l2[k]? =E r->w.cell? ⟨f,k,O⟩=E r.1/\w.frozen? ⟨f,k,O⟩=false):Sm B d f g w' s a l2 e:=by
 have e:=h.lt;have e:=h.le;have blk:∀b,b<B->w'.heap[b]? =w.heap[b]?:=fun b e=>c.block b om (fun e=>by have:=j b e.symm;omega)
 refine⟨h.lt,zL h.le c.size,?_,h.sz,fun k r g=>?_,m,?_⟩
 ·obtain⟨m,n,o,p,q⟩:=h.fd;have e:=blk d om;exact⟨(zP (w:=w) (a:=⟨d,0,O⟩) e).trans m,(zP (w:=w) (a:=⟨d,1,O⟩) e).trans n,(zt (w:=w) (a:=⟨d,0,O⟩) e).trans o,(zt (w:=w) (a:=⟨d,1,O⟩) e).trans p,zv q c.size⟩
 ·have e:=blk f om;exact⟨(zP (w:=w) (a:=⟨f,k,O⟩) e).trans (i k r g).1,(zt (w:=w) (a:=⟨f,k,O⟩) e).trans (i k r g).2⟩
 ·refine h.low.trans ⟨c.os,c.tape,c.output,c.size,fun k g=>c.block k (by have:=h.low.size;omega) (fun e=>by have:=j k e.symm;omega)⟩
theorem Sm.field {B f c:Nat}{e w w':H}{s:ByteArray}{a:Nat}{l b:List (Value×Nat×List Value)}{k g cap t:Nat}{v x:Value}{d:List Value}(h:Sm B f c e w s a l b)(o:l[k]? =E (v,t,d))(i:w.grownBy w' v.ownBlock)
 (ho:w'.ownsRow B t 1 (V (E ⟨g,0,O⟩) (d.length+1) cap) (d.length+1) (d ++ [x])) (j:v.ownBlock=E g\/g=w.heap.size):Sm B f c e (w'.setCell ⟨c,k,O⟩ (V (E ⟨g,0,O⟩) (d.length+1) cap)) s a (l.set k (V (E ⟨g,0,O⟩) (d.length+1) cap,t,d ++ [x])) b:=by
 have p:k<l.length:=(zn.1 o).1;have e:(l++b)[k]? =E (v,t,d):=by rw[zM p];exact o
 have n:∀b,v.ownBlock=E b->B<=b:=fun b m=>((h.pen.own k v t d e).lt b m).1
 have u:=h.pen.grow e i ho j;rw[List.set_append_left _ _ p]at u;have e:=h.lt;have e:=h.le;have q:∀b,b≠c->(w'.setCell ⟨c,k,O⟩ (V (E ⟨g,0,O⟩) (d.length+1) cap)).heap[b]? =w'.heap[b]?:=fun b m=>zK _ _ _ _ so
 have e:(w'.setCell ⟨c,k,O⟩ (V (E ⟨g,0,O⟩) (d.length+1) cap)).heap.size=w'.heap.size:=sp;have blk:∀b,b<B->w'.heap[b]? =w.heap[b]?:=fun b m=>i.block b om (fun e=>by have:=n b e.symm;omega)
 have d:=i.size;have n:∀j r,l[j]? =E r->w'.cell? ⟨c,j,O⟩=E r.1/\w'.frozen? ⟨c,j,O⟩=false:=fun j r d=>⟨(zP (w:=w) (a:=⟨c,j,O⟩) (blk c om)).trans (h.box j r d).1,(zt (w:=w) (a:=⟨c,j,O⟩) (blk c om)).trans (h.box j r d).2⟩
 refine⟨h.lt,om,?_,h.sz,fun j r d=>?_,u.same om (fun b m _=>q b om),?_⟩
 ·obtain⟨c,u,y,z,_⟩:=h.fd;have e:=(q f om).trans (blk f om);exact⟨(zP (w:=w) (a:=⟨f,0,O⟩) e).trans c,(zP (w:=w) (a:=⟨f,1,O⟩) e).trans u,(zt (w:=w) (a:=⟨f,0,O⟩) e).trans y,(zt (w:=w) (a:=⟨f,1,O⟩) e).trans z,om⟩
 ·by_cases e:j=k
  ·subst e;rw[jm p]at d;simp only[z7]at d;subst d;exact⟨zu _ _ _ (n j _ o).1,by simpa using (n j _ o).2⟩
  ·rw[Q7 (Qi e)]at d;exact⟨qT (n j r d).1 (Qi e),by simpa using (n j r d).2⟩
 ·refine h.low.trans ⟨i.os,i.tape,i.output,om,fun b m=>?_⟩;exact(q b om).trans (blk b om)
theorem Sm.last {B d e:Nat}{i w w':H}{s:ByteArray}{a:Nat}{l c:List (Value×Nat×List Value)}{g cap t:Nat}{v x:Value}{b:List Value}(h:Sm B d e i w s a l (c ++ [(v,t,b)]))(f:w.grownBy w' v.ownBlock)
 (ho:w'.ownsRow B t 1 (V (E ⟨g,0,O⟩) (b.length+1) cap) (b.length+1) (b ++ [x])) (j:v.ownBlock=E g\/g=w.heap.size):Sm B d e i w' s a l (c ++ [(V (E ⟨g,0,O⟩) (b.length+1) cap,t,b ++ [x])]):=by
 have d:(l++(c ++ [(v,t,b)]))[(l++c).length]? =E (v,t,b):=by
  rw[<-jI,zJ (zh _),Zy];rfl
 have i:=fun c e=>((h.pen.own _ v t b d).lt c e).1
 have b:=h.pen.grow d f ho j;rw[<-jI,List.set_append_right _ _ (zh _),Zy,jI]at b;exact h.grown f i b h.box
theorem Sm.far {B f b:Nat}{m w w':H}{s:ByteArray}{a:Nat}{l c:List (Value×Nat×List Value)}{k j t:Nat}{v:Value}{e:List Value}{r:Value×Nat×List Value}(h:Sm B f b m w s a l c)(i:(l++c)[k]? =E (v,t,e))(g:w.grownBy w' v.ownBlock)(d:l[j]? =E r):w'.cell? ⟨b,j,O⟩=E r.1/\w'.frozen? ⟨b,j,O⟩=false:=by
 have c:=h.lt;have c:=h.le;have c:=g.block b om (fun f=>by have:=((h.pen.own k v t e i).lt b f.symm).1;omega);exact⟨(zP (w:=w) (a:=⟨b,j,O⟩) c).trans (h.box j r d).1,(zt (w:=w) (a:=⟨b,j,O⟩) c).trans (h.box j r d).2⟩
def ivs (zs:List Int):List Value:=zs.map fun z=>it .i64 z
end Go.Proofs.YtnhfdcfnojnofaaGreatDoor
namespace Go.Proofs.YtnhfdcfnojnofaaGreatDoor.T
open Go.RowKit
def Recs (w:H)(v:Value)(size:Nat)(css:List (List Value)):Prop:=
 (v=V O 0 0/\css= [])\/∃g off cap,v=V (E ⟨g,off,O⟩) css.length cap/\css.length<=cap/\g<w.heap.size/\∀(i:Nat) (cs:List Value),css[i]? =E cs->∀(j:Nat) (u:Value),cs[j]? =E u->w.cell? ⟨g,off+i*size+j,O⟩=E u
theorem Recs.below {w w':H}{v:Value}{size:Nat}{a:List (List Value)}(h:Recs w v size a)(b:Below w.heap.size w w'):Recs w' v size a:=by
 rcases h with h|⟨g,c,d,e,f,a,k⟩
 ·exact Or.inl h
 ·exact Or.inr ⟨g,c,d,e,f,zv a b.size,fun i d e j u f=>(b.cell (p:=⟨g,c+i*size+j,O⟩) a).trans (k i d e j u f)⟩
theorem Recs.shape {w:H}{v:Value}{size:Nat}{a:List (List Value)}(h:Recs w v size a):∃b cap,v=V b a.length cap:=by
 rcases h with ⟨rfl,rfl⟩|⟨_,_,cap,rfl,_⟩
 ·exact⟨O,0,rfl⟩
 ·exact⟨_,_,rfl⟩
theorem Recs.at {w:H}{c:Option Addr}{l cap size:Nat}{b:List (List Value)}(h:Recs w (V c l cap) size b)(e:b≠ []):∃g a,c=E ⟨g,a,O⟩/\g<w.heap.size/\∀(i:Nat) (cs:List Value),b[i]? =E cs->∀(j:Nat) (u:Value),cs[j]? =E u->w.cell? ⟨g,a+i*size+j,O⟩=E u:=by
 rcases h with ⟨_,rfl⟩|⟨g,a,_,b,_,c,d⟩
 ·exact absurd rfl e
 ·simp only[zV]at b;exact⟨g,a,b.1,c,d⟩
theorem zjg {size:Nat}:∀(b:List (List Value)),(∀cs∈b,cs.length=size)->∀(i j:Nat) (cs:List Value) (u:Value),b[i]? =E cs->cs[j]? =E u->b.flatten[i*size+j]? =E u
 |[],_,i,j,cs,u,a,_=>by simp at a
 |c::b,h,i,j,cs,u,a,d=>by
  have e:=h c ZS;have f:=(zn.1 d).1;rw[List.flatten_cons];cases i with
  |zero=>
   simp only[zb2,z7]at a;subst a;rw[zcD,qi,zM f];exact d
  |succ i=>
   simp only[Jt]at a;rw[zJ (by rw[e,ZO];omega),e,show(i+1)*size+j-size=i*size+j by rw[ZO];omega];exact zjg b (fun x b=>h x (Zu _ b)) i j cs u a d
theorem zh5 {size:Nat}:∀(a:List (List Value)),(∀cs∈a,cs.length=size)->a.flatten.length=a.length*size
 |[],_=>sp
 |c::a,h=>by
  rw[List.flatten_cons,zX,h c ZS,zh5 a (fun x b=>h x (Zu _ b)),Zo,ZO];omega
theorem zfK {w:H}{B t size:Nat}{v:Value}{a:List (List Value)}(h:w.ownsRow B t size v a.length a.flatten)(hs:∀cs∈a,cs.length=size):Recs w v size a:=by
 obtain⟨_,b|⟨g,d,e,j,_,c,i,_,_,f⟩⟩:=h;·exact Or.inl ⟨b.1,ZP b.2⟩
 ·refine Or.inr ⟨g,0,d,j,i,(zf.1 c).1,fun i cs d j u g=>?_⟩;have b:=zjg a hs i j cs u d g;have d:i*size+j<a.length*size:=by
   have:=(zn.1 b).1;rw[zh5 a hs]at this;exact this
  have a:e.toList[i*size+j]? =E u:=by
   rw[<-f,QZ d]at b;exact b
  rw[qi];refine(qh _ _ (i*size+j) _ _ _ c).trans ?_;rw[<-Array.getElem?_toList];exact a
theorem zh6 (a:List (List Value))(cs:List Value):a.flatten++cs=(a ++ [cs]).flatten:=sp
theorem znw (w:H)(o:Obj)(cs:List Value)(t:TypeId):∀(j:Nat) (u:Value),cs[j]? =E u->((w.alloc o).alloc (cl cs.toArray t)).cell? ((⟨w.heap.size+1,0,O⟩:Addr).add j)=E u:=by
 intro j u b;have e:(w.alloc o).heap.size=w.heap.size+1:=sp;have a:=zq (w.alloc o) (cl cs.toArray t);rw[<-e];exact Jw a j u (by simpa using b)
theorem zit {f:ByteArray->Bool}{a:List ByteArray}{m:Nat}(h:m+1<a.length):(((a.drop 1).take (m+1)).all f)=(((a.drop 1).take m).all f&&f (a.getD (m+1) ⟨#[]⟩)):=by
 have b:m<(a.drop 1).length:=by rw[qu];omega
 rw[Zh b,Jj,Jp,zk,zj h];simp[za0]
theorem zhC {f:ByteArray->Bool}{a:List ByteArray}{m:Nat}(h:m+1<a.length)(b:f (a.getD (m+1) ⟨#[]⟩)=false):(a.drop 1).all f=false:=by
 rw[QT];refine⟨a.getD (m+1) ⟨#[]⟩,?_,by rw[b];exact Bool.false_ne_true⟩;rw[zk,zj h];show a[m+1]∈a.drop 1
 have b:m<(a.drop 1).length:=by rw[qu];omega
 have:=zZ b;rw[Jp]at this;simpa[za0]using this
theorem JH {w u b:H}{B:Nat}{v:Value}{e size n:Nat}{d:List Value}(c:Below B w u)(ho:u.ownsRow B e size v n d)(a:u.grownBy b v.ownBlock)(f:B<=u.heap.size):Below B w b:=
 c.trans ⟨a.os,a.tape,a.output,a.size,fun k b=>a.block k om (fun e=>by have:=(ho.lt k e.symm).1;omega)⟩
structure PT where
 n:Nat
 t:Tri
def PT.cells (c:PT):List Value:= [it .i64 (c.n:Nat),G c.t.b,c.t.up,c.t.down]
def Prts (w:H)(v:Value)(ps:List (Nat×Int×Nat)):Prop:=
 ∃ts:List PT,ts.length=ps.length/\(∀(i:Nat) (c:PT) (x:Nat×Int×Nat),ts[i]? =E c->ps[i]? =E x->c.n=x.1/\qe w c.t.val x.2.1 x.2.2)/\Recs w v 4 (ts.map PT.cells)
theorem Prts.below {w w':H}{v:Value}{a:List (Nat×Int×Nat)}(h:Prts w v a)(b:Below w.heap.size w w'):Prts w' v a:=by
 obtain⟨d,c,a,f⟩:=h;exact⟨d,c,fun i c x d e=>⟨(a i c x d e).1,(a i c x d e).2.below b⟩,f.below b⟩
def Jk (l:List UInt8):Nat×Int×Nat:=(min (partN l) 1125899906842624,partP l,partQ l)
theorem Tryz.infoPart:(Tryz.prog.info? 410).map (fun i=>(i.zero,i.size,i.bytes))=E (E (ag #[it .i64 0,G false,V O 0 0,V O 0 0]),4,64):=kr
theorem zl7 (w:H)(v:Value)(a:List ByteArray)(g:Sv w v a)(d:∀l∈a,l.size<=20000)(c:a.length<=1000000)(b:0<a.length):
 Calls pg 195 #[v] w fun e w'=>∃x,e= .returned (tp #[x,G ((a.drop 1).all fun l=>QG l.data.toList)])/\(((a.drop 1).all fun l=>QG l.data.toList)=true->Prts w' x ((a.drop 1).map fun l=>Jk l.data.toList))/\Below w.heap.size w w':=by
 obtain⟨i0,hi,a8,a9,aa⟩:=qL Tryz.infoPart;obtain⟨_,_,rfl⟩:=g.shape;obtain⟨j,n,rfl,m,c⟩:=g.row (by intro e;rw[e]at b;simp at b);obtain⟨I,b⟩:∃I,((a.drop 1).all fun l=>QG l.data.toList)=I:=⟨_,rfl⟩;have U:=zi b;rw[b];have g:=zi c;have h:=zi d;clear d b c;go_enter func195,ntmps195
 go_wp2_with fail
 go_loopw [4,5] (fun c d wr=>∃(b:List PT),d=it .i64 ((b.length+1:Nat):Int)/\b.length+1<=a.length/\wr.ownsRow w.heap.size 410 4 c b.length (b.map PT.cells).flatten/\
  Hid (∀(i:Nat) (c:PT),b[i]? =E c->c.n=(Jk (a.getD (i+1) ⟨#[]⟩).data.toList).1/\qe wr c.t.val (Jk (a.getD (i+1) ⟨#[]⟩).data.toList).2.1 (Jk (a.getD (i+1) ⟨#[]⟩).data.toList).2.2)/\Hid ((((a.drop 1).take b.length).all fun l=>QG l.data.toList)=true)/\Below w.heap.size w wr) (fun _ d _=>((a.length:Int)-intOf d).toNat)
 case atStart=>exact⟨[],rfl,so,Ze _ _ _ _,by rw[Hid];intro i t u;simp at u,rfl,zR _ _⟩
 case round=>
  obtain⟨b,rfl,_,S,t,y,s⟩:=hrel;by_cases d:b.length+1<a.length
  ·have k:=(s.cell (p:=⟨j,n+(b.length+1),O⟩) m).trans (g.out (b.length+1) d);have g:(a.getD (b.length+1) ⟨#[]⟩).size<=20000:=by
    rw[zk,zj d];exact h.out _ (zZ d)
   have F:=zi (zit (f:=fun l:ByteArray=>QG l.data.toList) d);have D:=zi (fun u=>zhC (f:=fun l:ByteArray=>QG l.data.toList) d u);obtain⟨C,hs⟩:∃C,a.getD (b.length+1) ⟨#[]⟩=C:=⟨_,rfl⟩;rw[hs]at k g F D;have N:=zi hs;clear hs;have W:=zi (fun d=>znv C d g);have d:(b.length:Int)+1<(a.length:Int):=om;by_cases z:QG C.data.toList=true
   ·have a3:Hid ((((a.drop 1).take (b.length+1)).all fun l=>QG l.data.toList)=true):=by rw[Hid,F.out,y.out,z];rfl
    have d:=zi z;clear D F y z;go_wp2_with fail
    refine(W.out _).mono ?_;rintro e g ⟨r,k,h,o,m,j,q,n,rfl,a6,T,K⟩;rw[d.out];obtain⟨Z,a0⟩:=T d.out;obtain⟨x,hxe⟩:∃x:PT,x=⟨r,⟨k,(h,o,m),(j,q,n)⟩⟩:=⟨_,rfl⟩;have A:x.cells= [it .i64 (r:Nat),G k,V h o m,V j q n]:=by rw[hxe];rfl
    have X:Ext g (g.alloc (cl #[it .i64 (r:Nat),G k,V h o m,V j q n] 410)):=(Ext.refl g).alloc _;have Q:Ext g ((g.alloc (cl #[it .i64 (r:Nat),G k,V h o m,V j q n] 410)).alloc (cl #[it .i64 (r:Nat),G k,V h o m,V j q n] 410)):=X.alloc _;have J:=(Ext.of K).trans Q;have M:=zb1 S J;have L:=s.trans (J.mono s.size);have Y:=znw g (cl #[it .i64 (r:Nat),G k,V h o m,V j q n] 410) x.cells 410;have a7:∀d∈x.cells,d.oneCell'=true:=by
     intro d d;rw[A]at d;simp only[qw,Zi,QF]at d;rcases d with rfl|rfl|rfl|rfl<;>rfl
    have a5:x.cells.length=1*4:=by rw[A];rfl
    have R:Hid (∀(i:Nat) (c:PT),(b ++ [x])[i]? =E c->c.n=(Jk (a.getD (i+1) ⟨#[]⟩).data.toList).1/\qe ((g.alloc (cl #[it .i64 (r:Nat),G k,V h o m,V j q n] 410)).alloc (cl #[it .i64 (r:Nat),G k,V h o m,V j q n] 410)) c.t.val (Jk (a.getD (i+1) ⟨#[]⟩).data.toList).2.1 (Jk (a.getD (i+1) ⟨#[]⟩).data.toList).2.2):=by
     intro i c d;by_cases a4:i<b.length
     ·rw[zM a4]at d;exact⟨(t.out i c d).1,(t.out i c d).2.below J⟩
     ·have a4:i=b.length:=by
       have:=(zn.1 d).1;simp at this;omega
      subst a4;rw[zJ (zh _),Zy]at d;have a4:x=c:=by simpa using d
      rw[N.out,<-a4,hxe];exact⟨Z,a0.below Q⟩
    have a4:=zi A;have N:=zi Y;rw[A]at N;clear Y A hxe t S s J X Q K T a0 Z;go_wp2_with (at_builtin;refine Qz _ rfl _ _ 304 rfl w.heap.size 410 i0 (ag #[it .i64 0,G false,V O 0 0,V O 0 0]) 4 64 underlying304 hi a8 a9 aa rfl dc u4 b.length (b.map PT.cells).flatten rfl M ⟨g.heap.size+1,0,O⟩ 1 1 x.cells rfl a5 (by rw[a4.out];exact N.out) a7 om mo om L.size (g.heap.size+1+1) sp ?_)
    intro g3 Z J Q A a0 a5;have X:=JG M dc;have Y:Hid (∀(i:Nat) (c:PT),(b ++ [x])[i]? =E c->c.n=(Jk (a.getD (i+1) ⟨#[]⟩).data.toList).1/\qe J c.t.val (Jk (a.getD (i+1) ⟨#[]⟩).data.toList).2.1 (Jk (a.getD (i+1) ⟨#[]⟩).data.toList).2.2):=fun i c d=>⟨(R.out i c d).1,(R.out i c d).2.grown A X⟩
    have a4:=JH L M A L.size;have a7:J.ownsRow w.heap.size 410 4 (V (E ⟨g3,0,O⟩) (b.length+1) Z) (b ++ [x]).length ((b ++ [x]).map PT.cells).flatten:=by
     rw[zX,qF,ZN,ZF,jE,<-zh6];exact Q
    have J:(b ++ [x]).length=b.length+1:=sp;have Z:Hid ((((a.drop 1).take (b ++ [x]).length).all fun l=>QG l.data.toList)=true):=by rw[Hid,J];exact a3.out
    generalize b ++ [x]=a3 at *;clear A Q X N M R L a0 a5;go_wp2_with fail
    go_roundw
    case rel=>exact⟨a3,by rw[J];go_num,om,a7,Y,Z,a4⟩
    case measure=>simp[intOf];omega
   ·have J:QG C.data.toList=false:=by simpa using z
    have A:Hid (I=false):=by rw[Hid,<-U.out];exact D.out J
    have C:=zi J;clear D F y z J t;go_wp2_with fail
    refine(W.out _).mono ?_;rintro e g ⟨r,k,h,o,m,j,q,n,rfl,a6,T,K⟩;rw[C.out];have g:=s.trans (K.mono s.size);go_wp2;go_ret2;exact⟨_,by rw[A.out];rfl,fun u=>absurd (A.out.symm.trans u) dc,g.alloc g.size _⟩
  ·have g:Hid (b.length+1=a.length):=by rw[Hid];omega
   have A:Hid (I=true):=by
    have:=y.out;rw[zy (by rw[qu];have:=g.out;omega)]at this;rw[Hid,<-U.out];exact this
   have h:Prts wr u4 ((a.drop 1).map fun l=>Jk l.data.toList):=by
    refine⟨b,by rw[zo,qu];have:=g.out;omega,fun i c x d b=>?_,zfK (B:=w.heap.size) (t:=410) (by rw[zo];exact S) (by intro g g;obtain⟨c,_,rfl⟩:=ZC.1 g;rfl)⟩;have g:i<(a.drop 1).length:=by
     have:=(zn.1 b).1;rw[zo]at this;exact this
    have j:i+1<a.length:=by rw[qu]at g;omega
    rw[zQ,zj g]at b;simp only[Zz,z7]at b;subst b;have a:=t.out i c d;rw[zk,zj j]at a;rw[Jp];simpa[za0]using a
   have a:=zi h;clear h y t;go_wp2;go_ret2;exact⟨_,by rw[A.out];rfl,fun _=>a.out,s⟩
end Go.Proofs.YtnhfdcfnojnofaaGreatDoor.T
namespace Go.Proofs.YtnhfdcfnojnofaaGreatDoor
def qred (z:Int)(n:Nat):Int×Nat:=(z/(Nat.gcd z.natAbs n:Int),n/Nat.gcd z.natAbs n)
def jh (a b:Int×Nat):Int×Nat:=qred (a.1*b.2+b.1*a.2) (a.2*b.2)
def Z5 (a b:Int×Nat):Int×Nat:=qred (a.1*b.1) (a.2*b.2)
structure Sz (M D:Nat)(a:Int×Nat):Prop where
 pos:0<a.2
 up:a.1.natAbs<=M*a.2
 down:a.2<=D
theorem Sz.num {M D:Nat}{a:Int×Nat}(h:Sz M D a):a.1.natAbs<=M*D:=zL h.up (qK _ h.down)
theorem Sz.mono {M D c b:Nat}{a:Int×Nat}(h:Sz M D a)(e:M<=c)(d:D<=b):Sz c b a:=
 ⟨h.pos,zL h.up (qM _ e),zL h.down d⟩
theorem zks {z:Int}{n M D:Nat}(b:0<n)(h:z.natAbs<=M*n)(c:n<=D):Sz M D (qred z n):=by
 have f:0<Nat.gcd z.natAbs n:=Qn _ b;have a:Nat.gcd z.natAbs n ∣ n:=ZZ _ _;have g:Nat.gcd z.natAbs n ∣ z.natAbs:=ZY _ _;have e:(z/(Nat.gcd z.natAbs n:Int)).natAbs=z.natAbs/Nat.gcd z.natAbs n:=by
  have d:=Q3.2 g;rw[jq d,Zc]
 refine⟨zaO (QV b a) f,?_,zL (Qh _ _) c⟩;show(z/(Nat.gcd z.natAbs n:Int)).natAbs<=M*(n/Nat.gcd z.natAbs n)
 rw[e,<-Nat.mul_div_assoc _ a];exact Nat.div_le_div_right h
theorem zoj {M D c f:Nat}{a b:Int×Nat}(d:Sz M D a)(e:Sz c f b):Sz (M+c) (D*f) (jh a b):=by
 refine zks (jr d.pos e.pos) ?_ (Z0 d.down e.down);have f:(a.1*(b.2:Int)).natAbs<=M*a.2*b.2:=by rw[Zx,Zc];exact qM _ d.up
 have d:(b.1*(a.2:Int)).natAbs<=c*b.2*a.2:=by rw[Zx,Zc];exact qM _ e.up
 have d:=zaT (a.1*(b.2:Int)) (b.1*(a.2:Int));have e:(M+c)*(a.2*b.2)=M*a.2*b.2+c*b.2*a.2:=by
  rw[ZO,ZD,ZD,Qg b.2 a.2]
 omega
theorem zhD {M D c f:Nat}{a b:Int×Nat}(d:Sz M D a)(e:Sz c f b):Sz (M*c) (D*f) (Z5 a b):=by
 refine zks (jr d.pos e.pos) ?_ (Z0 d.down e.down);rw[Zx];have:=Z0 d.up e.up;have e:M*a.2*(c*b.2)=M*c*(a.2*b.2):=Nat.mul_mul_mul_comm _ _ _ _;omega
theorem zgG {R:Nat}{z:Int}(h:z.natAbs<=R):Sz R 1 (z,1):=⟨Nat.one_pos,by simpa using h,zh _⟩
def qG (rows:List (List Int×Int)):List (Nat×Int×Nat)->List (Int×Nat)×(Int×Nat)->Except Nat (List (Int×Nat)×(Int×Nat))
 |[],acc=> .ok acc
 |x::r,acc=>
  if x.1<1\/rows.length<x.1 then .error 9
  else if x.2.1<=0 then .error 10
  else qG rows r (List.zipWith (fun a g=>jh a (Z5 (g,1) x.2)) acc.1 (rows.getD (x.1-1) ([],0)).1,jh acc.2 (Z5 ((rows.getD (x.1-1) ([],0)).2,1) x.2))
def zcV (M D:Nat)(acc:List (Int×Nat)×(Int×Nat)):Prop:=(∀a∈acc.1,Sz M D a)/\Sz M D acc.2
def Jl (n R:Nat)(rows:List (List Int×Int)):Prop:=∀r∈rows,r.1.length=n/\(∀z∈r.1,z.natAbs<=R)/\r.2.natAbs<=R
theorem Jl.get {n R:Nat}{rows:List (List Int×Int)}(h:Jl n R rows){k:Nat}(a:¬(k<1\/rows.length<k)):(rows.getD (k-1) ([],0)).1.length=n/\(∀z∈(rows.getD (k-1) ([],0)).1,z.natAbs<=R)/\(rows.getD (k-1) ([],0)).2.natAbs<=R:=by
 have a:k-1<rows.length:=om;rw[zk,zj a];exact h _ (zZ a)
theorem Jl.mono {n R a:Nat}{rows:List (List Int×Int)}(h:Jl n R rows)(b:R<=a):Jl n a rows:=fun r a=>⟨(h r a).1,fun z c=>zL ((h r a).2.1 z c) b,zL (h r a).2.2 b⟩
theorem zgo {d g k:Type}{f:d->g->k}{P:k->Prop}{e:List d}{ys:List g}{A:d->Prop}{B:g->Prop}(i:∀a∈e,A a)(j:∀b∈ys,B b)(h:∀a b,A a->B b->P (f a b)):∀c∈List.zipWith f e ys,P c:=by
 induction e generalizing ys with
 |nil=>intro c d;simp at d
 |cons a e e=>
  cases ys with
  |nil=>intro c d;simp at d
  |cons b ys=>
   intro c d;rw[List.zipWith_cons_cons,qw]at d;rcases d with rfl|d
   ·exact h a b (i a ZS) (j b ZS)
   ·exact e (fun x e=>i x (Zu _ e)) (fun x e=>j x (Zu _ e)) c d
theorem znx {n R M D F d:Nat}{rows:List (List Int×Int)}(j:Jl n R rows){x:Nat×Int×Nat}(k:Sz F d x.2)(h:¬(x.1<1\/rows.length<x.1)){b:List (Int×Nat)×(Int×Nat)}(c:zcV M D b)(i:b.1.length=n):
 zcV (M+R*F) (D*d) (List.zipWith (fun a g=>jh a (Z5 (g,1) x.2)) b.1 (rows.getD (x.1-1) ([],0)).1,jh b.2 (Z5 ((rows.getD (x.1-1) ([],0)).2,1) x.2))/\(List.zipWith (fun a g=>jh a (Z5 (g,1) x.2)) b.1 (rows.getD (x.1-1) ([],0)).1).length=n:=by
 obtain⟨b,e,f⟩:=j.get h;have step:∀(a:Int×Nat) (g:Int),Sz M D a->g.natAbs<=R->Sz (M+R*F) (D*d) (jh a (Z5 (g,1) x.2)):=by
  intro a g c d;have:=zoj c (zhD (zgG d) k);rw[Qy]at this;exact this
 refine⟨⟨zgo c.1 e step,step _ _ c.2 f⟩,?_⟩;rw[Jy,i,b,Nat.min_self]
def Qa (acc:List (Int×Nat)×(Int×Nat)):Option (List Int×Int):=
 if acc.1.all (fun a=>decide (a.2=1))=true then E (acc.1.map Prod.fst,acc.2.1/(acc.2.2:Int))else O
end Go.Proofs.YtnhfdcfnojnofaaGreatDoor
