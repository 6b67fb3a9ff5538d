import Derived.Test.YtnhfdcfnojnofaaGreatDoorAds1Z37
open Option renaming none->O,some->E
open Go.Value renaming slice->V,bool->G,string->gS,tuple->tp,int->it,agg->ag
open Go.Obj renaming cells->cl
open Go renaming World->H
open Go.Proofs.Tryz renaming prog->pg
open Go.Proofs.Tryz
set_option linter.unusedSimpArgs false
set_option linter.unusedVariables false
set_option maxHeartbeats 2000000
set_option maxRecDepth 100000
namespace Go.Proofs.YtnhfdcfnojnofaaGreatDoor
open Go.RowKit
theorem zj6 (s:ByteArray)(w:H):
 Calls pg 212 #[gS s,gS ⟨#[58]⟩] w fun e w'=>e= .returned (it .i64 (Lib.index s.data.toList [58]))/\w'=w:=by
 by_cases h:s=⟨#[58]⟩
 ·subst h;go_enter func212,ntmps212
  go_wp2;go_ret;exact⟨rfl,rfl⟩
 ·have a:(([58]:List UInt8) == s.toList)=false:=by
   rw[qO,ZT];intro e;exact h (by obtain⟨⟨_⟩⟩:=s;simp at e;rw[<-e])
  have a:=zi (zeN s.data.toList 58);go_enter func212,ntmps212
  go_wp2_with fail
  refine(Tryz.stringslite_IndexByte s 58 _).mono ?_;rintro e b ⟨rfl,rfl⟩;go_wp2;go_ret;exact⟨QW a.out,rfl⟩
theorem zhK (l:List UInt8):-1<=Lib.index l [58]/\Lib.index l [58]<l.length\/Lib.index l [58]=-1:=by
 by_cases h:Lib.index l [58]=-1
 ·exact Or.inr h
 ·left
  refine⟨zcI _ _,?_⟩;rw[<-zeN]at h⊢;have a:=zcq l 58;obtain⟨o,ho⟩:∃o:Nat,Lib.indexByte l 58=(o:Int):=⟨(Lib.indexByte l 58).toNat,om⟩;rw[ho];have a:=(zbN ho).1;have b:=(zn.1 a).1;omega
theorem zhh (s:ByteArray)(w:H)(hs:s.size<=9223372036854775807):
 Calls pg 127 #[gS s,gS ⟨#[58]⟩] w fun e w'=>e= .returned (tp #[gS ⟨(Lib.cut s.data.toList [58]).1.toArray⟩,gS ⟨(Lib.cut s.data.toList [58]).2.1.toArray⟩,G (Lib.cut s.data.toList [58]).2.2])/\∃n,w'=w.drewN n:=by
 have g:=zhK s.data.toList;rw[qN]at g;have a:=qN s;have h:=zi (zj6 s);have b:Hid (Lib.cut s.data.toList [58]=if 0<=Lib.index s.data.toList [58]then(s.data.toList.take (Lib.index s.data.toList [58]).toNat,s.data.toList.drop ((Lib.index s.data.toList [58]).toNat+1),true)else(s.data.toList,[],false)):=by rw[Hid,Lib.cut];rfl
 generalize Lib.index s.data.toList [58]=z at *;by_cases c:0<=z
 ·obtain⟨k,rfl⟩:∃k:Nat,z=(k:Int):=⟨z.toNat,om⟩;have a:=b.out;rw[z8 c,jJ]at a;have d:=zi a;have f:ByteArray.mk (s.data.toList.take k).toArray=s.extract 0 k:=(T.ze2 (by rw[QP,Zd,jO])).symm;have i:ByteArray.mk (s.data.toList.drop (k+1)).toArray=s.extract (k+1) s.size:=(T.ze2 (by rw[jC])).symm;have j:=zi f;have l:=zi i;have m:k<s.size:=om;clear a b f i g c;go_enter func127,ntmps127
  go_wp2_with fail
  refine(h.out _).mono ?_;rintro e i ⟨rfl,rfl⟩;go_wp2;go_region
  all_goals go_wp2
  all_goals exact zH (v:=tp #[gS (s.extract 0 k),gS (s.extract (k+1) s.size),G true]) (by simp[results,results127,go_sem]) rfl ⟨by rw[d.out,j.out,l.out],1,rfl⟩
 ·obtain rfl:z=-1:=om;have a:=b.out;rw[zW c]at a;have d:=zi a;have f:ByteArray.mk s.data.toList.toArray=s:=rfl;clear a b g c;go_enter func127,ntmps127
  go_wp2_with fail
  refine(h.out _).mono ?_;rintro e i ⟨rfl,rfl⟩;go_wp2;exact zH (v:=tp #[gS s,gS ⟨#[]⟩,G false]) (by simp[results,results127,go_sem]) rfl ⟨by rw[d.out],0,rfl⟩
theorem zmt (s:ByteArray)(w:H)(hs:s.size<=9223372036854775807):
 Calls pg 73 #[gS s,gS ⟨#[58]⟩] w fun e w'=>e= .returned (tp #[gS ⟨(Lib.cut s.data.toList [58]).1.toArray⟩,gS ⟨(Lib.cut s.data.toList [58]).2.1.toArray⟩,G (Lib.cut s.data.toList [58]).2.2])/\∃n,w'=w.drewN n:=by
 have a:=zi (fun W=>zhh s W hs);generalize Lib.cut s.data.toList [58]=c at *;go_enter func73,ntmps73
 go_wp2_with fail
 refine(a.out _).mono ?_;rintro e a ⟨rfl,q,rfl⟩;go_wp2;exact zH (v:=tp #[gS ⟨c.1.toArray⟩,gS ⟨c.2.1.toArray⟩,G c.2.2]) (by simp[results,results73,go_sem]) rfl ⟨rfl,q,rfl⟩
theorem zc3 (s:ByteArray)(m:Nat)(w:H)(hs:s.size<=1099511627776)(h:s.data.toList= []\/m<s.size\/qZ s.data.toList=false):
 Calls pg 76 #[gS s,it .i64 (m:Nat)] w fun e w'=>e= .returned (tp #[V O 0 0,G false])/\w'=w:=by
 by_cases a:s.size=0
 ·have b:((s.size:Int) == 0)=true:=by rw[a];rfl
  clear h;go_enter func76,ntmps76
  go_wp2;go_ret2;exact⟨rfl,rfl⟩
 ·have b:((s.size:Int) == 0)=false:=qO.2 om;by_cases c:m<s.size
  ·have d:(m:Int)<(s.size:Int):=om;clear h;go_enter func76,ntmps76
   go_wp2;go_ret2;exact⟨rfl,rfl⟩
  ·have d:¬(m:Int)<(s.size:Int):=om;have f:qZ s.data.toList=false:=by
    rcases h with h|h|h
    ·exact absurd (by rw[JD,h];rfl) a
    ·exact absurd h c
    ·exact h
   clear h;go_enter func76,ntmps76
   go_wp2_with fail
   refine(zfB s _ hs f).mono ?_;rintro e w' ⟨rfl,rfl⟩;go_wp2;go_ret2;exact⟨rfl,rfl⟩
theorem zbh (s:ByteArray)(m:Nat)(w:H)(b:s.size<=1000000000)(a:0<s.size)(hs:s.size<=m)(h:qZ s.data.toList=true):
 Calls pg 76 #[gS s,it .i64 (m:Nat)] w fun e w'=>∃v,e= .returned (tp #[v,G true])/\NatV w' v (qd s.data.toList)/\Below w.heap.size w w':=by
 have c:((s.size:Int) == 0)=false:=qO.2 om;have d:¬(m:Int)<(s.size:Int):=om;have a:(Lib.trimLeftB s.data.toList 48).length<=s.size:=by rw[JD s];exact zfh _ _
 have u:qZ (Lib.trimLeftB s.data.toList 48)=true:=zdP h (fun r n=>(zb8 _).subset n);have J:=zi (zgk s.data.toList);obtain⟨f,g,i,l,o⟩:=qL Tryz.info131;go_enter func76,ntmps76
 go_wp2_with fail
 refine(zfg s _ om h).mono ?_;rintro e w' ⟨rfl,rfl⟩;clear h;go_wp2_with fail
 refine(Tryz.strings_TrimLeft_one s 48 dc _).mono ?_;rintro e b ⟨rfl,rfl⟩;generalize Lib.trimLeftB s.data.toList 48=L at *;have a:(ByteArray.mk L.toArray).size=L.length:=by simp[ByteArray.size]
 clear c d;go_wp2_with (at_make;refine wpList_make_own _ rfl _ _ 99 rfl b.heap.size 224 f (it .u32 0) 1 underlying99 g i l _ _ _ (L.length/9+1) rfl rfl ?c0 (by rw[o];omega) mo (zh _) ?_)
 case c0=>rw[<-a];omega
 intro j d f;have p:=(zR _ _).grown f (zh _) (fun k h=>by simp at h);have j:=zi a;clear f g i l o a;go_wp2;go_loopw [0,6] (fun g l wr=>∃(t:ByteArray) (k i f:Nat) (a:List Nat),g=gS t/\l=V (E ⟨i,0,O⟩) a.length f/\k<=L.length/\t.size<=1000000000/\Hid (t.data.toList=L.drop k)/\Hid (t.size=L.length-k)/\Hid (k=0\/(L.length-k)%9=0)/\
  wr.ownsRow b.heap.size 224 1 (V (E ⟨i,0,O⟩) a.length f) a.length (a.map encD)/\Dig a/\Top a/\Hid (val a=qd (L.take k))/\a.length<=k/\Below b.heap.size b wr) (fun g _ _=>zeL g)
 case atStart=>
  refine⟨_,0,b.heap.size,L.length/9+1,[],rfl,rfl,qp _,by rw[j.out];omega,by simp[Hid],by rw[Hid,j.out,jO],Or.inl rfl,d,?_,Top.nil,by simp[Hid,val,qd],zh _,p⟩;intro g j;simp at j
 case round=>
  obtain⟨t,k,i,f,a,rfl,rfl,_,_,y,g,z,d,j,A,B,_,o⟩:=hrel;by_cases l:0<t.size
  ·have l:(t.size-1)%9+1<=t.size:=by have:=Nat.mod_le (t.size-1) 9;omega
   have l:(t.extract 0 ((t.size-1)%9+1)).data.toList=(L.drop k).take ((t.size-1)%9+1):=by rw[QP,Zd,jO,y.out]
   have q:(t.extract 0 ((t.size-1)%9+1)).size<=9:=by
    rw[JD,l,zU];omega
   have p:qZ (t.extract 0 ((t.size-1)%9+1)).data.toList=true:=by
    rw[l];exact zdP u (fun r n=>QO (Zv n))
   have M:=zcz p;have x:qd (t.extract 0 ((t.size-1)%9+1)).data.toList<1000000000:=by
    have c:(t.extract 0 ((t.size-1)%9+1)).data.toList.length<=9:=by rw[<-JD];exact q
    have n:10^(t.extract 0 ((t.size-1)%9+1)).data.toList.length<=10^9:=qz om c;omega
   have n:k+((t.size-1)%9+1)<=L.length:=by have:=g.out;omega
   have u:k=0\/(t.size-1)%9+1=9:=by
    have c:=g.out;rcases z.out with h|h
    ·exact Or.inl h
    ·right;omega
   have C:=zi (zfC (L:=L) u n);have D:=zi l;have r:(t.extract ((t.size-1)%9+1) t.size).data.toList=L.drop (k+((t.size-1)%9+1)):=by
    rw[jC,y.out,j7]
   have F:=zi r;have y:(L.length-(k+((t.size-1)%9+1)))%9=0:=by have:=g.out;omega
   have I:=zi y;have z:(t.extract ((t.size-1)%9+1) t.size).size=L.length-(k+((t.size-1)%9+1)):=by rw[JD,r,qu]
   have n:=zi z;have K:=o.size;clear l M r y z u;go_wp2_with fail
   refine(zhY _ _ q p).mono ?_;rintro e l ⟨rfl,rfl⟩;clear q p;have l:(t.extract 0 ((t.size-1)%9+1)).data.toList=t.data.toList.take ((t.size-1)%9+1):=by rw[QP,Zd,jO]
   rw[l]at x;have p:=zi (Zt qd (l.symm.trans D.out));clear l;go_wp2_with fail
   refine(zeK _ b.heap.size i f _ a d K om x j A).mono ?_;rintro e b ⟨l,b,i,rfl,u,r,y,_,q,x⟩;go_wp2;go_roundw
   case rel=>exact⟨_,k+((t.size-1)%9+1),l,b,i,rfl,rfl,om,by rw[n.out];omega,F,n,Or.inr I.out,u,r,x,by rw[Hid,y,p.out,C.out,B.out],om,o.trans q⟩
   case measure=>show(t.extract _ _).size<t.size;rw[n.out];have:=g.out;omega
  ·have b:k=L.length:=by have:=g.out;omega
   have g:val a=qd s.data.toList:=by rw[B.out,b,Zw,J.out]
   have i:=zi g;have l:=(zbb d).2;have p:=row_of_owns d rfl;have k:a.length<=f:=by
    obtain⟨_,c|⟨_,_,_,f,_,_,n,_⟩⟩:=d;·exact absurd c.1 sp
    ·simp only[zV]at f;obtain⟨_,_,rfl⟩:=f;exact n
   clear b g;go_wp2;go_ret2;refine⟨_,rfl,?_,o⟩;rw[<-i.out];exact⟨a,U32s.mk p l k,j,A,rfl⟩
theorem zbW (s:ByteArray)(m:Nat)(w:H)(l:(Lib.trimPrefix s.data.toList [45]).length<=1000000000)(j:0<(Lib.trimPrefix s.data.toList [45]).length)(h1:(Lib.trimPrefix s.data.toList [45]).length<=m)(k:qZ (Lib.trimPrefix s.data.toList [45])=true):
 Calls pg 74 #[gS s,it .i64 (m:Nat)] w fun e w'=>∃x,e= .returned (tp #[x,G true])/\zY w' x (sg (Lib.hasPrefix s.data.toList [45]) (qd (Lib.trimPrefix s.data.toList [45])))/\Below w.heap.size w w':=by
 have g:qX (w.alloc (cl #[G false,V O 0 0] 101)) w.heap.size (G false) (V O 0 0):=qX.new _ _ _ _;have f:Below w.heap.size w (w.alloc (cl #[G false,V O 0 0] 101)):=(zR _ _).alloc (zh _) _;have b:=Tryz.strings_CutPrefix s ⟨#[45]⟩ (w.alloc (cl #[G false,V O 0 0] 101));have c:(ByteArray.mk #[45]).data.toList= [45]:=rfl;rw[c]at b;generalize Lib.trimPrefix s.data.toList [45]=d at *;generalize Lib.hasPrefix s.data.toList [45]=a at *;have i:=zi b;have h:=Jc d;have a:=zi h;clear b c h;go_enter func74,ntmps74
 go_wp2_with fail
 refine i.out.mono ?_;rintro e b ⟨rfl,rfl⟩;go_wp2_with fail
 refine(zbh ⟨d.toArray⟩ m _ (by rw[a.out];exact l) (by rw[a.out];exact j) (by rw[a.out];exact h1) (by simpa using k)).mono ?_;rintro e h ⟨v,rfl,c,a⟩;have i:NatV h v (qd d):=by simpa using c
 have d:=g.below a;have b:=f.trans (a.mono f.size);clear c a;go_wp2_with fail
 refine(jw _ _ _ _ i).mono ?_;rintro e p ⟨x,rfl,c,a⟩;obtain⟨h,f,o,n,rfl,l,i⟩:=c.parts;have k:=d.below a;have j:=b.trans (a.mono b.size);obtain⟨b,c,_,_,_⟩:=k;clear d a g;go_wp2;exact zH (v:=tp #[ag #[G h,V f o n],G true]) (by simp[results,results74,go_sem,b,c]) rfl ⟨_,rfl,Qv l i b c,
  (j.setCell sp _).setCell sp _⟩
theorem zgf (s:ByteArray)(m:Nat)(w:H)(hs:s.size<=1000000000)(h:T.okD (Lib.trimPrefix s.data.toList [45]) m=false):
 Calls pg 74 #[gS s,it .i64 (m:Nat)] w fun e w'=>∃b u l cap,e= .returned (tp #[ag #[G b,V u l cap],G false])/\Below w.heap.size w w':=by
 have n:qX (w.alloc (cl #[G false,V O 0 0] 101)) w.heap.size (G false) (V O 0 0):=qX.new _ _ _ _;have k:Below w.heap.size w (w.alloc (cl #[G false,V O 0 0] 101)):=(zR _ _).alloc (zh _) _;have c:=Tryz.strings_CutPrefix s ⟨#[45]⟩ (w.alloc (cl #[G false,V O 0 0] 101));have i:(ByteArray.mk #[45]).data.toList= [45]:=rfl;rw[i]at c;have F:(Lib.trimPrefix s.data.toList [45]).length<=s.size:=by
  rw[<-qN s,Lib.trimPrefix];split
  ·simp
  ·exact zh _
 generalize Lib.trimPrefix s.data.toList [45]=d at *;generalize Lib.hasPrefix s.data.toList [45]=I at *;have o:(ByteArray.mk d.toArray).data.toList= []\/m<(ByteArray.mk d.toArray).size\/qZ (ByteArray.mk d.toArray).data.toList=false:=by
  have e:(ByteArray.mk d.toArray).data.toList=d:=sp;rw[e,Jc];unfold T.okD at h;by_cases j:d= []
  ·exact Or.inl j
  ·by_cases z:d.length<=m
   ·rw[qH j,qH z,ZE,ZE]at h;exact Or.inr (Or.inr h)
   ·exact Or.inr (Or.inl om)
 have t:=zi (fun W=>zc3 ⟨d.toArray⟩ m W (by rw[Jc];omega) o);have r:=zi c;clear c i o h;go_enter func74,ntmps74
 go_wp2_with fail
 refine r.out.mono ?_;rintro e J ⟨rfl,rfl⟩;go_wp2_with fail
 refine(t.out _).mono ?_;rintro e K ⟨rfl,rfl⟩;go_wp2_with fail
 refine(jw _ _ _ _ (NatV.zero _ _ _)).mono ?_;rintro e D ⟨_,rfl,C,a⟩;obtain⟨g,f,q,p,rfl,_,_⟩:=C.parts;have B:=n.below a;have A:=k.trans (a.mono k.size);obtain⟨x,y,_,_,_⟩:=B;clear a n;go_wp2;exact zH (v:=tp #[ag #[G g,V f q p],G false]) (by simp[results,results74,go_sem,x,y]) rfl ⟨g,f,q,p,rfl,(A.setCell sp _).setCell sp _⟩
theorem za7 (d p:List UInt8):(Lib.trimPrefix d p).length<=d.length:=by
 rw[Lib.trimPrefix];split
 ·simp
 ·exact zh _
theorem zfT (K:Nat)(A:K<=1073741822)(B:zca K)(s:ByteArray)(m:Nat)(w:H)(hs:s.size<=1000000000)(a b:List UInt8)(hcut:Lib.cut s.data.toList [47]=(a,b,true))
 (i:0<(Lib.trimPrefix a [45]).length) (k:(Lib.trimPrefix a [45]).length<=m) (l:qZ (Lib.trimPrefix a [45])=true) (n:0<b.length) (o:b.length<=m) (p:qZ b=true) (q:qd b≠0)
 (t:qd (Lib.trimPrefix a [45])<4294967296^K) (C:qd b<4294967296^K):
 Calls pg 56 #[gS s,it .i64 (m:Nat)] w fun e w'=>∃x z,z=sg (Lib.hasPrefix a [45]) (qd (Lib.trimPrefix a [45]))/\e= .returned (tp #[x,G true])/\qP w' x (z/(Nat.gcd z.natAbs (qd b):Int)) (qd b/Nat.gcd z.natAbs (qd b))/\Below w.heap.size w w':=by
 have g:Hid ((Lib.trimPrefix a [45]).length<=1000000000/\b.length<=1000000000):=by
  have c:=zf7 s.data.toList;have d:=za7 a [45];rw[hcut,qN]at c;simp only at c;exact⟨om,by first|omega|simp⟩
 have r:qk (w.alloc (cl #[G false,V O 0 0,V O 0 0] 103)) w.heap.size (G false) (V O 0 0) (V O 0 0):=qk.new _ _ _ _ _;have j:Below w.heap.size w (w.alloc (cl #[G false,V O 0 0,V O 0 0] 103)):=(zR _ _).alloc (zh _) _;have c:=zhz s (w.alloc (cl #[G false,V O 0 0,V O 0 0] 103)) om;rw[hcut]at c;have u:=zi c;have d:=fun W=>zbW ⟨a.toArray⟩ m W (by simpa using (show(Lib.trimPrefix a [45]).length<=1000000000 from g.out.1)) (by simpa using i) (by simpa using k) (by simpa using l)
 have h:(ByteArray.mk a.toArray).data.toList=a:=sp;rw[h]at d;have v:=zi d;have f:=fun W=>zbh ⟨b.toArray⟩ m W (by rw[Jc];exact g.out.2) (by rw[Jc];exact n) (by rw[Jc];exact o) (by simpa using p)
 have g:(ByteArray.mk b.toArray).data.toList=b:=sp;rw[g]at f;have y:=zi f;have D:(sg (Lib.hasPrefix a [45]) (qd (Lib.trimPrefix a [45]))).natAbs<4294967296^K:=by rw[zbn];exact t
 generalize sg (Lib.hasPrefix a [45]) (qd (Lib.trimPrefix a [45]))=z at *;generalize qd b=M at *;clear c d f h g hcut i k l n o p t hs;go_enter func56,ntmps56
 go_wp2_with fail
 refine u.out.mono ?_;rintro e c ⟨rfl,i,rfl⟩;go_wp2_with fail
 refine(v.out _).mono ?_;rintro e h ⟨x,rfl,l,k⟩;obtain⟨d,c,g,f,rfl,u,_⟩:=l.parts;have o:=(r.drewN i).below k;have n:=j.trans ((Qt k).mono j.size);have p:=o.alloc (cl #[G d,V c g f] 101);have t:=l.alloc (cl #[G d,V c g f] 101);have i:Below w.heap.size w (h.alloc (cl #[G d,V c g f] 101)):=n.alloc n.size _;have n:qX (h.alloc (cl #[G d,V c g f] 101)) h.heap.size (G d) (V c g f):=qX.new _ _ _ _;clear k o r l u j;go_wp2_with fail
 refine(y.out _).mono ?_;rintro e k ⟨_,rfl,f,c⟩;have h:=p.below c;have j:=t.below c;have g:=n.below c;have d:=i.trans (c.mono i.size);clear c p t n i;obtain⟨y,F,I,J,L⟩:=g;go_wp2_with fail
 refine(Jq _ _ _ f q).mono ?_;rintro e c ⟨rfl,rfl⟩;go_wp2_with fail
 refine(zdp K A B _ _ _ z M j f q D C).mono ?_;rintro e f ⟨_,rfl,i,c⟩;obtain⟨n,k,C,A,l,D,B,rfl,q,r,t,u,v⟩:=i.parts;have p:=h.below c;have o:=d.trans (c.mono d.size);obtain⟨d,f,g,_,_,_,_⟩:=p;clear c h j y F I J L i;go_wp2;exact zH (v:=tp #[ag #[G n,V k C A,V l D B],G true]) (by simp[results,results56,go_sem,d,f,g]) rfl ⟨_,z,rfl,rfl,jP q r t u v d f g,
  ((o.setCell sp _).setCell sp _).setCell sp _⟩
theorem zfw (s:ByteArray)(m:Nat)(w:H)(hs:s.size<=1000000000)(a:List UInt8)(hcut:Lib.cut s.data.toList [47]=(a,[],false))
 (g:0<(Lib.trimPrefix a [45]).length) (h:(Lib.trimPrefix a [45]).length<=m) (i:qZ (Lib.trimPrefix a [45])=true):
 Calls pg 56 #[gS s,it .i64 (m:Nat)] w fun e w'=>∃x,e= .returned (tp #[x,G true])/\qP w' x (sg (Lib.hasPrefix a [45]) (qd (Lib.trimPrefix a [45]))) 1/\Below w.heap.size w w':=by
 have f:Hid ((Lib.trimPrefix a [45]).length<=1000000000/\0<=1000000000):=by
  have b:=zf7 s.data.toList;have c:=za7 a [45];rw[hcut,qN]at b;simp only at b;exact⟨om,by first|omega|simp⟩
 have l:qk (w.alloc (cl #[G false,V O 0 0,V O 0 0] 103)) w.heap.size (G false) (V O 0 0) (V O 0 0):=qk.new _ _ _ _ _;have d:Below w.heap.size w (w.alloc (cl #[G false,V O 0 0,V O 0 0] 103)):=(zR _ _).alloc (zh _) _;have b:=zhz s (w.alloc (cl #[G false,V O 0 0,V O 0 0] 103)) om;rw[hcut]at b;have j:=zi b;have c:=fun W=>zbW ⟨a.toArray⟩ m W (by simpa using (show(Lib.trimPrefix a [45]).length<=1000000000 from f.out.1)) (by simpa using g) (by simpa using h) (by simpa using i)
 have f:(ByteArray.mk a.toArray).data.toList=a:=sp;rw[f]at c;have k:=zi c;generalize sg (Lib.hasPrefix a [45]) (qd (Lib.trimPrefix a [45]))=z at *;clear b c f hcut g h i hs;go_enter func56,ntmps56
 go_wp2_with fail
 refine j.out.mono ?_;rintro e b ⟨rfl,j,rfl⟩;go_wp2_with fail
 refine(k.out _).mono ?_;rintro e q ⟨x,rfl,g,f⟩;obtain⟨c,b,i,h,rfl,r,_⟩:=g.parts;have n:=(l.drewN j).below f;have j:=d.trans ((Qt f).mono d.size);have o:=n.alloc (cl #[G c,V b i h] 101);have p:=g.alloc (cl #[G c,V b i h] 101);have k:Below w.heap.size w (q.alloc (cl #[G c,V b i h] 101)):=j.alloc j.size _;clear f n l g r d;go_wp2_with fail
 refine(zf4 _ _ z p).mono ?_;rintro e c ⟨_,rfl,g,b⟩;obtain⟨j,h,B,z,i,C,A,rfl,q,r,t,u,y⟩:=g.parts;have n:=o.below b;have l:=k.trans (b.mono k.size);obtain⟨c,d,f,_,_,_,_⟩:=n;clear b o p g;go_wp2;exact zH (v:=tp #[ag #[G j,V h B z,V i C A],G true]) (by simp[results,results56,go_sem,c,d,f]) rfl ⟨_,rfl,jP q r t u y c d f,
  ((l.setCell sp _).setCell sp _).setCell sp _⟩
theorem zgL (s:ByteArray)(m:Nat)(w:H)(hs:s.size<=1000000000)(h:T.zaP (Lib.trimPrefix s.data.toList [45]) m=false):
 Calls pg 56 #[gS s,it .i64 (m:Nat)] w fun e w'=>∃b a l cap c f d,e= .returned (tp #[ag #[G b,V a l cap,V c f d],G false])/\Below w.heap.size w w':=by
 have u:qk (w.alloc (cl #[G false,V O 0 0,V O 0 0] 103)) w.heap.size (G false) (V O 0 0) (V O 0 0):=qk.new _ _ _ _ _;have g:Below w.heap.size w (w.alloc (cl #[G false,V O 0 0,V O 0 0] 103)):=(zR _ _).alloc (zh _) _;have a:=zhz s (w.alloc (cl #[G false,V O 0 0,V O 0 0] 103)) om;have c:=zf7 s.data.toList;rw[qN]at c;unfold T.zaP at h;rw[(zjf s.data.toList).1]at h;generalize Lib.cut s.data.toList [47]=f at *;obtain⟨d,b,i⟩:=f;simp only at h a c;have F:=zi a;clear a;have f:(ByteArray.mk d.toArray).data.toList=d:=sp;have v:(ByteArray.mk b.toArray).data.toList=b:=sp;by_cases y:T.okD (Lib.trimPrefix d [45]) m=true
 ·rw[y,ZE]at h;have a:i=true:=by
   cases i with
   |true=>rfl
   |false=>simp at h
  subst a;simp only[Bool.not_true,Bool.false_or]at h;obtain⟨p,q,r⟩:=zbS y;have a:=fun W=>zbW ⟨d.toArray⟩ m W (by rw[f];have:=za7 d [45];omega) (by rw[f];exact p) (by rw[f];exact q) (by rw[f];exact r)
  rw[f]at a;generalize sg (Lib.hasPrefix d [45]) (qd (Lib.trimPrefix d [45]))=z at *;have B:=zi a;clear a p q r y;by_cases x:T.okD b m=true
  ·rw[x,ZE]at h;obtain⟨p,q,r⟩:=zbS x;have a:=fun W=>zbh ⟨b.toArray⟩ m W (by rw[Jc];omega) (by rw[Jc];exact p) (by rw[Jc];exact q) (by rw[v];exact r)
   rw[v]at a;have c:qd b=0:=by
    by_cases e:qd b=0
    ·exact e
    ·simp[e]at h
   rw[c]at a;have I:=zi a;clear a p q r h c f v hs x;go_enter func56,ntmps56
   go_wp2_with fail
   refine F.out.mono ?_;rintro e P ⟨rfl,A,rfl⟩;go_wp2_with fail
   refine(B.out _).mono ?_;rintro e t ⟨a0,rfl,z,a⟩;obtain⟨k,j,o,n,rfl,K,R⟩:=z.parts;have i:=(u.drewN A).below a;have c:=g.trans ((Qt a).mono g.size);have D:=i.alloc (cl #[G k,V j o n] 101);have C:Below w.heap.size w (t.alloc (cl #[G k,V j o n] 101)):=c.alloc c.size _;clear a i u z K g;go_wp2_with fail
   refine(I.out _).mono ?_;rintro e Q ⟨_,rfl,L,J⟩;have Z:=D.below J;have N:=C.trans (J.mono C.size);clear J D C;go_wp2_with fail
   refine(zaF _ _ L).mono ?_;rintro e J ⟨rfl,rfl⟩;obtain⟨J,L,M,S,U,X,Y⟩:=Z;go_wp2;exact zH (v:=tp #[ag #[G false,V O 0 0,V O 0 0],G false]) (by simp[results,results56,go_sem,J,L,M]) rfl ⟨_,_,_,_,_,_,_,rfl,((N.setCell sp _).setCell sp _).setCell sp _⟩
  ·have N:T.okD b m=false:=by simpa using x
   have I:=zi (fun W=>zc3 ⟨b.toArray⟩ m W (by rw[Jc];omega) (zkr N));clear h f v hs x N;go_enter func56,ntmps56
   go_wp2_with fail
   refine F.out.mono ?_;rintro e P ⟨rfl,A,rfl⟩;go_wp2_with fail
   refine(B.out _).mono ?_;rintro e t ⟨a0,rfl,z,a⟩;obtain⟨k,j,o,n,rfl,K,R⟩:=z.parts;have i:=(u.drewN A).below a;have c:=g.trans ((Qt a).mono g.size);have D:=i.alloc (cl #[G k,V j o n] 101);have C:Below w.heap.size w (t.alloc (cl #[G k,V j o n] 101)):=c.alloc c.size _;clear a u z K g;go_wp2_with fail
   refine(I.out _).mono ?_;rintro e Q ⟨rfl,rfl⟩;have z:=i;obtain⟨K,p,q,r,N,Q,R⟩:=z;obtain⟨J,L,M,S,U,X,Y⟩:=D;have x:=(qk.same i).alloc (cl #[G k,V j o n] 101);obtain⟨C,D,I,L,M,S,U⟩:=x;go_wp2;exact zH (v:=tp #[ag #[G false,V O 0 0,V O 0 0],G false]) (by simp[results,results56,go_sem,C,D,I]) rfl ⟨_,_,_,_,_,_,_,rfl,(T.Z9 c (zh _) _ _ _).alloc (by have:=c.size;simp;omega) _⟩
 ·have J:T.okD (Lib.trimPrefix d [45]) m=false:=by simpa using y
  have B:=zi (fun W=>zgf ⟨d.toArray⟩ m W (by rw[Jc];omega) (by rw[f];exact J));clear h f v hs y J;go_enter func56,ntmps56
  go_wp2_with fail
  refine F.out.mono ?_;rintro e P ⟨rfl,A,rfl⟩;go_wp2_with fail
  refine(B.out _).mono ?_;rintro e t ⟨k,j,o,n,rfl,a⟩;have i:=(u.drewN A).below a;have c:=g.trans ((Qt a).mono g.size);have z:=i;obtain⟨K,p,q,r,N,Q,R⟩:=z;have x:=(qk.same i).alloc (cl #[G k,V j o n] 101);obtain⟨C,D,I,L,M,S,U⟩:=x;clear a u g;go_wp2;exact zH (v:=tp #[ag #[G false,V O 0 0,V O 0 0],G false]) (by simp[results,results56,go_sem,C,D,I]) rfl ⟨_,_,_,_,_,_,_,rfl,(T.Z9 c (zh _) _ _ _).alloc (by have:=c.size;simp;omega) _⟩
theorem zjv {l:List UInt8}{K:Nat}(a:l.length<=K)(h:qZ l=true):qd l<4294967296^K:=by
 have b:=zcz h;have b:10^l.length<=4294967296^l.length:=Nat.pow_le_pow_left om _;have b:4294967296^l.length<=4294967296^K:=qz om a;omega
theorem zgg (s:ByteArray)(m:Nat)(w:H)(hs:s.size<=1000000000)(h:T.zaP (Lib.trimPrefix s.data.toList [45]) m=true):
 Calls pg 56 #[gS s,it .i64 (m:Nat)] w fun e w'=>∃x,e= .returned (tp #[x,G true])/\qP w' x (T.rP s.data.toList) (T.rQ s.data.toList)/\Below w.heap.size w w':=by
 obtain⟨hA,hB⟩:=zjf s.data.toList;unfold T.zaP at h;unfold T.rP T.rQ;unfold T.rA T.rD T.zcR;rw[hA]at h⊢;rw[hB];obtain⟨⟨a,b,pt⟩,hcut⟩:∃cc,Lib.cut s.data.toList [47]=cc:=⟨_,rfl⟩;rw[hcut]at h⊢;simp only at h⊢;simp only[ZQ]at h;obtain⟨hd,h2⟩:=h;obtain⟨d1,d2,d3⟩:=zbS hd;cases pt with
 |false=>
  have hb:b= []:=by
   have hc:=hcut;unfold Lib.cut at hc;split at hc
   ·simp at hc
   ·simp only[zdG]at hc;exact hc.2.1.symm
  subst hb;refine(zfw s m w hs a hcut d1 d2 d3).mono ?_;rintro e w' ⟨x,rfl,hx,hbw⟩;refine⟨x,rfl,?_,hbw⟩;simp only[Q4,Jg,J5,JX,zbK,Nat.div_one];exact hx
 |true=>
  simp only[Bool.not_true,Bool.false_or,ZQ,Qw]at h2;obtain⟨hb,hb0⟩:=h2;obtain⟨f1,f2,f3⟩:=zbS hb;simp only[jo];have hln:=zf7 s.data.toList;rw[hcut,qN]at hln;simp only at hln;obtain⟨K,hK,hO,hz,hn⟩:∃K,K<=1073741822/\zca K/\qd (Lib.trimPrefix a [45])<4294967296^K/\qd b<4294967296^K:=⟨s.size,om,zdX _ om,zjv (by have:=za7 a [45];omega) d3,zjv om f3⟩;refine(zfT K hK hO s m w hs a b hcut d1 d2 d3 f1 f2 f3 hb0 hz hn).mono ?_;rintro e w' ⟨x,z,hzz,rfl,hx,hbw⟩;refine⟨x,rfl,?_,hbw⟩;have hab:z.natAbs=qd (Lib.trimPrefix a [45]):=by rw[hzz,zbn]
  rw[hab,hzz]at hx;exact hx
def zbi (W:H)(b:Nat):Prop:=¬QI W b 101/\∀(o:Nat) (v:Value),W.cell? ⟨b,o,O⟩=E v->∀n,v≠it .u32 n
theorem zbi.same {w w':H}{k:Nat}(h:zbi w k)(e:w'.heap[k]? =w.heap[k]?):zbi w' k:=
 ⟨fun b=>h.1 (b.same e.symm),fun o v b=>h.2 o v ((zP (w:=w) (a:=⟨k,o,O⟩) e).symm.trans b)⟩
theorem zbi.of {w:H}{k:Nat}(h:¬QI w k 101)(a:qU w k):zbi w k:=⟨h,a.2⟩
theorem zeF {w:H}{g:Nat}{cs:Array Value}{t:TypeId}{a:Nat×Nat}(h:w.heap[g]? =E (cl cs t a))(c:t≠101)(b:∀v∈cs.toList,JP v):zbi w g:= .of (fun a=>c (QI.one ⟨_,_,h⟩ a)) (qj h b)
theorem zj7 {w:H}{g:Nat}{o:Obj}(h:w.heap[g]? =E o)(ho:o.isCells=false):zbi w g:=by
 refine⟨fun⟨_,_,a⟩=>?_,fun p x c=>?_⟩
 ·rw[h]at a;cases a;cases ho
 ·obtain⟨_,a,b⟩:=cells_of_cell c;simp only at a;rw[h]at a;cases a;rw[ho]at b;cases b
theorem NatV.wrN {T:Nat->Prop}{w w':H}{v:Value}{n:Nat}(h:NatV w v n)(e:Wr T w w')(m:∀k,T k->zbi w k):NatV w' v n:=by
 obtain⟨a,⟨b,c,i,f,g⟩,d⟩:=h;refine⟨a,⟨b,c,i,f,fun c=>?_⟩,d⟩;obtain⟨b,o,i,l,d⟩:=g c;have j:¬T b:=by
  intro f;have g:=Zq.2 c;exact(m b f).2 _ _ (d 0 g) _ rfl
 exact⟨b,o,i,zv l e.size,fun i a=>e.cell j (d i a)⟩
theorem zY.wrN {T:Nat->Prop}{w w':H}{x:Value}{z:Int}(h:zY w x z)(f:Wr T w w')(e:∀k,T k->zbi w k):zY w' x z:=by
 obtain⟨b,v,a,c,d⟩:=h;exact⟨b,v,a,c.wrN f e,d⟩
theorem Jm.wrN {U:Nat->Prop}{w w':H}{v:Value}{zs:List Int}(h:Jm w v zs)(b:Wr U w w')(a:∀k,U k->zbi w k):Jm w' v zs:=by
 obtain⟨f,c,d,e⟩:=h;exact⟨f,c,d.wr b (fun k c=>(a k c).1),fun i t z c d=>(e i t z c d).wrN b a⟩
def zas (B:Nat)(W:H)(b:Nat):Prop:=B<=b/\((∃(x:Int) (fr:Nat×Nat),W.heap[b]? =E (cl #[it .i64 x] 3 fr))\/∃(x:Bool) (fr:Nat×Nat),W.heap[b]? =E (cl #[G x] 4 fr))
def SeqQ (P:Program)(g:Nat)(lb:Array Value)(n:Nat)(Y:Nat->Array Value->H->Prop)(C:H->Prop):Prop:=
 ∀(l:Nat) (J:Nat->(Nat->Prop)->H->Prop) (Jx:Nat->H->Prop) (M0:Nat->Prop) (W:H),
  (∀k M A B,J k M A->zw W.heap.size A B->J k M B)->(∀k A B,Jx k A->zw W.heap.size A B->Jx k B)->
  (∀k M A B,J k M A->Wr (zas W.heap.size A) A B->J k M B)->(∀k A B,Jx k A->Wr (zas W.heap.size A) A B->Jx k B)->
  (∀k M A,J k M A->C A/\∀x,M x->x<A.heap.size/\zbi A x)->
  (∀k v M W1,k<n->Y k v W1->J k M W1->YieldAt Fence.wide 0 P l v W1 fun e W'=>
   (e= .returned (G true)/\Wr M W1 W'/\∃M',J (k+1) M' W'/\∀x,M' x->M x\/W1.heap.size<=x)\/(e= .returned (G false)/\Wr M W1 W'/\Jx k W'))->
  J 0 M0 W->
  Calls P g (#[.func (.yield l) #[] #[]]++lb) W fun e W'=>(∃v,e= .returned v)/\((∃M,J n M W')\/∃k,k<n/\Jx k W')
theorem J0.own {P:Program}{g:Nat}{a:Array Value}{n:Nat}{Y:Nat->Array Value->H->Prop}{C:H->Prop}(h:J0 P g a n Y C):SeqQ P g a n Y C:=
 fun l J b c W d e _ _ a f i=>h l J b c W d e (fun k M A b=>⟨(a k M A b).1,fun x c=>((a k M A b).2 x c).1⟩) f i
theorem zd0 {P:Program}{n:Nat}{g:Operand}{ps:Array Tmp}{assign body:Code}{Q:Exit->Act->H->Prop}{a:Act}{w:H}
 {gf:Nat} {lb:Array Value} {N0:Nat} {Y:Nat->Array Value->H->Prop} {C:H->Prop} (hseq:SeqQ P gf lb N0 Y C)
 (hg:a.eval g= .func (.func gf) #[] lb) (eg:∀args w,(callFunc gf args).run P w= .ok (.enter gf args) w)
 (hps:∀k v W,Y k v W->v.size=ps.size) (I:Nat->(Nat->Prop)->H->Prop) (Ix:Code->Nat->H->Prop) (M0:Nat->Prop)
 (hI:∀k M A B,I k M A->zw w.heap.size A B->I k M B) (hIx:∀c k A B,Ix c k A->zw w.heap.size A B->Ix c k B)
 (hI2:∀k M A B,I k M A->Wr (zas w.heap.size A) A B->I k M B) (hIx2:∀c k A B,Ix c k A->Wr (zas w.heap.size A) A B->Ix c k B)
 (hC:∀k M A,I k M A->C A/\∀x,M x->x<A.heap.size/\zbi A x) (h0:I 0 M0 w)
 (hround:∀(l k:Nat) (v:Array Value) (M:Nat->Prop) (W:H),k<N0->Y k v W->I k M W->Qr P n w.heap.size M I Ix ps assign body a l k v W)
 (hdone:∀(D:Nat) (M:Nat->Prop) (W:H),D=w.heap.size->(∀x,M x->x<D\/D+2<=x)->I N0 M W->W.heap[D]? =E (.deferred (E []))->Q .normal { a with defers:={ target:= .collected D,args:=#[] } :: a.defers } W)
 (hstop:∀(D:Nat) (c:Code) (k:Nat) (W:H),w.heap.size<=D->k<N0->Ix c k W->W.heap[D]? =E (.deferred (E []))->c.wpIn Fence.wide n P Q { a with defers:={ target:= .collected D,args:=#[] } :: a.defers } W):
 (Code.rangeFunc g ps assign body).wpIn Fence.wide n P Q a w:=by
 refine wpIn_rangeFunc fun fn _=>?_
 obtain⟨rc,hrc⟩:∃rc:LoopState->Option Code->Loop,rc=fun st pe=>{ state:=st,pending:=pe,fn,tmps:=a.tmps,params:=ps,assign,body,defers:=w.heap.size }:=⟨_,rfl⟩
 obtain⟨W0,hW0⟩:∃W0,(w.alloc (.deferred (E []))).alloc (.loop (rc .ready O))=W0:=⟨_,rfl⟩;obtain⟨l,hl⟩:∃l,w.heap.size+1=l:=⟨_,rfl⟩;have hL0:W0.heap[l]? =E (.loop (rc .ready O)):=by
  rw[<-hW0,<-hl];have h:=qq (w.alloc (.deferred (E []))) (.loop (rc .ready O));rwa [qx]at h
 have hD0:W0.heap[w.heap.size]? =E (.deferred (E [])):=by
  rw[<-hW0];exact(zI _ _ _ sp).trans (qq w _)
 have hI0:I 0 M0 W0:=hI _ _ _ _ h0 (by rw[<-hW0];exact(zw.alloc _ _ _).trans (zw.alloc _ _ _));have hs2:W0.heap.size=w.heap.size+2:=by rw[<-hW0];simp
 have hsz:w.heap.size<=W0.heap.size:=om;refine⟨l,[{ target:= .collected w.heap.size,args:=#[] }],W0,{ target:= .fn (.func gf) lb,args:=#[.func (.yield l) #[] #[]] },W0,gf,
  #[.func (.yield l) #[] #[]]++lb,W0,?_,?_,fun _ _=>trivial,?_,(fun h=>by cases h),zS.2 ?_⟩
 ·rw[<-hW0,<-hl,hrc];exact run_enterLoop_outer _ _ _ _ _
 ·simp only[resolve,hg];simp[go_sem]
 ·simp[invoke,go_sem,eg]
 ·refine(hseq l
   (fun k M W=>∃N,(∀x,M x↔N x\/x=l)/\I k N W/\(∀x,N x->x<w.heap.size\/W0.heap.size<=x)/\W.heap[l]? =E (.loop (rc .ready O))/\W.heap[w.heap.size]? =E (.deferred (E [])))
   (fun k W=>∃c,Ix c k W/\W.heap[l]? =E (.loop (rc .done (E c)))/\W.heap[w.heap.size]? =E (.deferred (E [])))
   (fun x=>M0 x\/x=l) W0 ?_ ?_ ?_ ?_ ?_ ?_ ⟨M0,fun _=>Ql,hI0,fun x hx=> .inl ((hC _ _ _ h0).2 x hx).1,hL0,hD0⟩).mono ?_
  ·rintro k M A B ⟨N,h1,h2,h3,h4,h5⟩ hb;exact⟨N,h1,hI _ _ _ _ h2 (hb.mono hsz),h3,hb.block _ _ h4 (.inl om),hb.block _ _ h5 (.inl om)⟩
  ·rintro k A B ⟨c,h1,h2,h3⟩ hb;exact⟨c,hIx _ _ _ _ h1 (hb.mono hsz),hb.block _ _ h2 (.inl om),hb.block _ _ h3 (.inl om)⟩
  ·rintro k M A B ⟨N,h1,h2,h3,h4,h5⟩ hb;exact⟨N,h1,hI2 _ _ _ _ h2 (hb.mono (fun k hk=>⟨zL hsz hk.1,hk.2⟩)),h3,hb.some h4 (fun e=>by have:=e.1;omega),hb.some h5 (fun e=>by have:=e.1;omega)⟩
  ·rintro k A B ⟨c,h1,h2,h3⟩ hb;exact⟨c,hIx2 _ _ _ _ h1 (hb.mono (fun k hk=>⟨zL hsz hk.1,hk.2⟩)),hb.some h2 (fun e=>by have:=e.1;omega),hb.some h3 (fun e=>by have:=e.1;omega)⟩
  ·rintro k M A ⟨N,h1,h2,h3,h4,h5⟩;refine⟨(hC _ _ _ h2).1,fun x hx=>?_⟩;rcases(h1 x).1 hx with h|h
   ·exact(hC _ _ _ h2).2 x h
   ·rw[h];exact⟨(zf.1 h4).1,zj7 h4 rfl⟩
  ·rintro k v M W hkN hv ⟨N,hMN,hi,hN,hlr,hd⟩;have hy:=run_yield (P:=P) (args:=v) hlr (by rw[hrc];exact hps k v W hv);rw[hrc]at hy;have hNl:¬N l:=fun h=>by rcases hN l h with h|h<;>omega
   have hND:¬N w.heap.size:=fun h=>by rcases hN _ h with h|h<;>omega
   have hs0:W0.heap.size<=W.heap.size:=by
    have:=(zf.1 hlr).1;omega
   have up:∀{X Y:H},Wr N X Y->Wr M X Y:=fun h=>h.mono fun x hx=>(hMN x).2 (.inl hx)
   refine YieldAt.any 0 (n:=n) ⟨fn,_,assign,body,hy,roundIn_of_wpIn trivial (zbF (hround l k v N W hkN hv hi) ?_)⟩;rintro e a' W' he;cases e with
   |normal=>
    obtain⟨hk,hb⟩:=he;have hl':=hk.some hlr hNl;have hd':=hk.some hd hND;refine⟨_,run_beginRound hl' (by rw[hrc]),?_⟩;have hl2:(W'.putObj l (.loop { rc .ready O with state:= .busy })).heap[l]? =E (.loop { rc .ready O with state:= .busy }):=jN (zf.1 hl').1;have hd2:(W'.putObj l (.loop { rc .ready O with state:= .busy })).heap[w.heap.size]? =E (.deferred (E [])):=(Zp om).trans hd';have hw2:Wr M W (W'.putObj l (.loop { rc .ready O with state:= .busy })):=(up hk).trans (Wr.putObj ((hMN l).2 (.inr rfl)) _);refine zbF (hb _ (zw.putObj _ om hl' rfl)) ?_;have fin:∀(jump:Option Code) (W3:H),Wr N (W'.putObj l (.loop { rc .ready O with state:= .busy })) W3->
     ∃W4,(Instr.endRound l jump).run P W3= .ok (G jump.isNone) W4/\zw w.heap.size W3 W4/\Wr M W W4/\
      W4.heap[l]? =E (.loop (rc (if jump.isNone then .ready else .done) jump))/\W4.heap[w.heap.size]? =E (.deferred (E [])):=fun jump W3 hk3=>by
     have hl3:=hk3.some hl2 hNl;have hd3:=hk3.some hd2 hND;refine⟨_,run_endRound jump hl3,zw.putObj _ om hl3 rfl,(hw2.trans (up hk3)).trans (Wr.putObj ((hMN l).2 (.inr rfl)) _),?_,(Zp om).trans hd3⟩;rw[jN (zf.1 hl3).1,hrc]
    rintro e a3 W3 hp;cases e with
    |normal=>
     obtain⟨hp1,N',hp2,hp3⟩:=hp;obtain⟨W4,hr,hk4,hw4,hl4,hd4⟩:=fin O W3 hp1;refine⟨_,_,hr,.inl ⟨rfl,hw4,fun x=>N' x\/x=l,⟨N',fun _=>Ql,hI _ _ _ _ hp2 hk4,fun x hx=>?_,hl4,hd4⟩,fun x hx=>?_⟩⟩
     ·rcases hp3 x hx with h|h
      ·exact hN x h
      ·exact .inr om
     ·rcases hx with h|h
      ·rcases hp3 x h with h|h
       ·exact .inl ((hMN x).2 (.inl h))
       ·exact .inr h
      ·exact .inl ((hMN x).2 (.inr h))
    |ret=>
     obtain⟨W4,hr,hk4,hw4,hl4,hd4⟩:=fin (E .ret) W3 hp.1;exact⟨_,_,hr,.inr ⟨rfl,hw4,.ret,hIx _ _ _ _ hp.2 hk4,hl4,hd4⟩⟩
    |exit id=>
     obtain⟨W4,hr,hk4,hw4,hl4,hd4⟩:=fin (E (.exit id)) W3 hp.1;exact⟨_,_,hr,.inr ⟨rfl,hw4,.exit id,hIx _ _ _ _ hp.2 hk4,hl4,hd4⟩⟩
    |goto t=>
     obtain⟨W4,hr,hk4,hw4,hl4,hd4⟩:=fin (E (.goto t)) W3 hp.1;exact⟨_,_,hr,.inr ⟨rfl,hw4,.goto t,hIx _ _ _ _ hp.2 hk4,hl4,hd4⟩⟩
    |panic ch=>exact hp.elim
    |outgrown=>exact hp.elim
   |ret=>exact he.elim
   |exit id=>exact he.elim
   |goto t=>exact he.elim
   |panic ch=>exact he.elim
   |outgrown=>exact he.elim
  ·rintro e W2 ⟨⟨v,rfl⟩,(⟨M,N,_,hi,hN,hlr,hd⟩|⟨k,hk,c,hi,hlr,hd⟩)⟩
   ·refine⟨O,_,(by have h:=zb7 (P:=P) hlr (by rw[hrc];simp);rw[hrc]at h;exact h),?_⟩;exact hdone _ N _ rfl (fun x hx=>(hN x hx).imp id (fun h=>om)) (hI _ _ _ _ hi (zw.putObj _ om hlr rfl)) ((Zp om).trans hd)
   ·refine⟨E c,_,(by have h:=zb7 (P:=P) hlr (by rw[hrc];simp);rw[hrc]at h;exact h),?_⟩;exact hstop _ c k _ (zh _) hk (hIx _ _ _ _ hi (zw.putObj _ om hlr rfl)) ((Zp om).trans hd)
end Go.Proofs.YtnhfdcfnojnofaaGreatDoor
namespace Go.Proofs.YtnhfdcfnojnofaaGreatDoor.T
open Go.RowKit
structure zav (w0 w:H)(go:Nat)(v:Value)(ts:List Tri)(R:Tri):Prop where
 lt:w0.heap.size=go
 le:go+1<=w.heap.size
 ko:¬QE w go
 bg:w.cell? ⟨go,0,O⟩=E v/\w.frozen? ⟨go,0,O⟩=false
 br:jV w go 1 R
 own:w.ownsRow (go+1) 118 3 v ts.length (Zj ts)
 low:Ext w0 w
theorem zav.ext {d w w':H}{c:Nat}{v:Value}{ts:List Tri}{R:Tri}(h:zav d w c v ts R)(b:Ext w w'):zav d w' c v ts R:=by
 have d:=h.le;have d:=b.size;have d:=b.block c om;exact⟨h.lt,om,fun⟨e,f,g⟩=>h.ko ⟨e,f,d.symm.trans g⟩,⟨b.cell h.bg.1,(zt (w:=w) (a:=⟨c,0,O⟩) d).trans h.bg.2⟩,h.br.same d,zb1 h.own b,h.low.trans b⟩
theorem zav.far {d w w':H}{b:Nat}{v:Value}{ts:List Tri}{R:Tri}(h:zav d w b v ts R)(c:w.grownBy w' v.ownBlock):w'.cell? ⟨b,0,O⟩=E v/\w'.frozen? ⟨b,0,O⟩=false:=by
 have d:=h.le;have e:=c.block b om (fun e=>by have:=(h.own.lt b e.symm).1;omega);exact⟨(zP (w:=w) (a:=⟨b,0,O⟩) e).trans h.bg.1,(zt (w:=w) (a:=⟨b,0,O⟩) e).trans h.bg.2⟩
theorem zav.grow {b w w':H}{a g cap:Nat}{v:Value}{ts:List Tri}{R x:Tri}(h:zav b w a v ts R)(c:w.grownBy w' v.ownBlock)(ho:w'.ownsRow (a+1) 118 3 (V (E ⟨g,0,O⟩) (ts.length+1) cap) (ts.length+1) (Zj ts++x.cells)):
 zav b (w'.setCell ⟨a,0,O⟩ (V (E ⟨g,0,O⟩) (ts.length+1) cap)) a (V (E ⟨g,0,O⟩) (ts.length+1) cap) (ts ++ [x]) R:=by
 have b:=h.le;have b:=h.lt;have b:=c.size;have blk:∀b,b<a+1->w'.heap[b]? =w.heap[b]?:=fun b f=>c.block b om (fun e=>by have:=(h.own.lt b e.symm).1;omega)
 have d:∀b,b≠a->(w'.setCell ⟨a,0,O⟩ (V (E ⟨g,0,O⟩) (ts.length+1) cap)).heap[b]? =w'.heap[b]?:=fun b f=>zK _ _ _ _ so
 have b:(w'.setCell ⟨a,0,O⟩ (V (E ⟨g,0,O⟩) (ts.length+1) cap)).heap.size=w'.heap.size:=sp;have b:=blk a om;have j:¬QE w' a:=fun⟨a,f,i⟩=>h.ko ⟨a,f,b.symm.trans i⟩
 obtain⟨f,i,k,l,m,n⟩:=h.br.same b;obtain⟨a,b⟩:=h.far c;refine⟨h.lt,om,QY j,
  ⟨zu _ _ _ a,by simpa using b⟩,⟨qT f om,qT i om,qT k om,by simpa using l,by simpa using m,by simpa using n⟩,?_,?_⟩
 ·rw[zX,qF];have e:Zj ts++x.cells=Zj (ts ++ [x]):=by simp[Zj]
  rw[<-e];exact zaJ ho om (fun k a=>d k (by have:=(ho.lt k a).1;omega))
 ·exact ZA h.low ⟨c.os,c.tape,c.output,om,fun k a=>(d k om).trans (blk k om)⟩
theorem zav.num {e w w':H}{b:Nat}{v:Value}{ts:List Tri}{R:Tri}(h:zav e w b v ts R)(c:w.grownBy w' v.ownBlock)(u:Value){x:Value}{p:Int}{q:Nat}(d:qe w x p q):qe (w'.setCell ⟨b,0,O⟩ u) x p q:=by
 have e:=c.block b (by have:=h.le;omega) (fun e=>by have:=(h.own.lt b e.symm).1;omega);exact(d.grown c (JG h.own dc)).kept (QH.of_setCell (a:=⟨b,0,O⟩) (fun⟨c,b,d⟩=>h.ko ⟨c,b,e.symm.trans d⟩) u)
theorem zav.start (w:H)(R:Tri):zav w (w.alloc (cl #[V O 0 0,G R.b,R.up,R.down] 308)) w.heap.size (V O 0 0) [] R:=by
 have a:=zq w (cl #[V O 0 0,G R.b,R.up,R.down] 308);exact⟨rfl,sp,zar a dc,⟨c_ 0 a,ZX a⟩,⟨c_ 1 a,c_ 2 a,c_ 3 a,ZX a,ZX a,ZX a⟩,Ze _ _ _ _,(Ext.refl w).alloc _⟩
theorem zmu {w a:H}{s t:Tri}{p:Int}{q:Nat}(x:Ext (w.alloc (cl #[G s.b,s.up,s.down] 118)) a)(h:qe a t.val p q):jV (QA a w.heap.size 0 t) w.heap.size 0 t/\qe (QA a w.heap.size 0 t) t.val p q:=by
 have e:=(x.block _ sp).trans (zq w _);exact⟨zbr t (zbU e),h.kept (jS (zar e dc))⟩
theorem zav.apart {c w w':H}{b:Nat}{v:Value}{ts:List Tri}{R:Tri}{row:Option Nat}(h:zav c w b v ts R)(d:w.grownBy w' row)(f:∀g,row=E g->g≠b):jV w' b 1 R/\w'.cell? ⟨b,0,O⟩=E v/\w'.frozen? ⟨b,0,O⟩=false/\¬QE w' b:=by
 have c:=h.le;have c:=d.block b om (fun e=>f b e.symm rfl);exact⟨h.br.same c,(zP (w:=w) (a:=⟨b,0,O⟩) c).trans h.bg.1,(zt (w:=w) (a:=⟨b,0,O⟩) c).trans h.bg.2,fun⟨b,d,e⟩=>h.ko ⟨b,d,c.symm.trans e⟩⟩
theorem zav.nums {f w:H}{c n i:Nat}{a:Option Addr}{b:Nat}{ts:List Tri}{R:Tri}(h:zav f w c (V a ts.length b) ts R)(d:ts.length=n)(e:∀(k:Nat) (t:Tri),ts[k]? =E t->qe w t.val (if k=i then 1 else 0) 1):Qj w (V a ts.length b) ((zai n i).map fun z=>(z,1)):=by
 refine zbO h.own (by simp[zai,d]) (fun k t z a b=>?_);have c:k<n:=by
  have:=(zn.1 a).1;omega
 simp only[zai,ZV,zQ,zaw c,Zz,Function.comp,z7]at b;subst b;exact e k t a
end Go.Proofs.YtnhfdcfnojnofaaGreatDoor.T
