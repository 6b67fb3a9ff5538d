import Derived.Test.YtnhfdcfnojnofaaGreatDoorAds1Z15
open Option renaming none->O,some->E
open Go.Value renaming slice->V,bool->G,string->gS,tuple->tp,int->it,agg->ag
open Go.Obj renaming cells->cl
open Go renaming World->H
open Go.Proofs.Tryz renaming prog->pg
open Go.Proofs.Tryz
set_option linter.unusedSimpArgs false
set_option linter.unusedVariables false
set_option maxHeartbeats 4000000
set_option maxRecDepth 100000
namespace Go.Proofs.YtnhfdcfnojnofaaGreatDoor.T
open Go.RowKit
def okD (l:List UInt8)(m:Nat):Bool:=decide (l≠ [])&&(decide (l.length<=m)&&qZ l)
theorem ze3 (s:ByteArray)(m:Nat)(w:H)(hs:s.size<=9223372036854775807)(d:m<=1000000):
 Calls pg 182 #[gS s,it .i64 (m:Nat)] w fun e w'=>∃b l cap,e= .returned (tp #[V b l cap,G (okD s.data.toList m)])/\(okD s.data.toList m=true->NV w' (V b l cap) (qd s.data.toList))/\(okD s.data.toList m=false->l=0)/\Below w.heap.size w w':=by
 by_cases h:s=⟨#[]⟩\/m<s.size
 ·have e:okD s.data.toList m=false:=by
   rcases h with rfl|h
   ·rfl
   ·have:¬s.data.toList.length<=m:=by rw[qN];omega
    unfold okD;rw[ZB this,zag,Bool.and_false]
  refine(zkV s m w h hs d).mono ?_;rintro f w' ⟨rfl,rfl⟩;rw[e];exact⟨O,0,0,rfl,fun h=>by simp at h,fun _=>rfl,zR _ _⟩
 ·rw[not_or]at h;have g:0<s.size:=by
   rcases Qc s.size with a|a
   ·exact absurd (ByteArray.ext (Ji a)) h.1
   ·exact a
  have e:okD s.data.toList m=qZ s.data.toList:=by
   have a:s.data.toList≠ []:=by
    intro e;have:=qN s;rw[e]at this;simp at this;omega
   have c:s.data.toList.length<=m:=by rw[qN];omega
   unfold okD;rw[qH a,qH c,ZE,ZE]
  refine(zkU s m w g om d).mono ?_;rintro f w' ⟨_,rfl,a,c,f⟩;rw[e];by_cases d:qZ s.data.toList=true
  ·obtain⟨b,l,cap,rfl⟩:=(a d).slice;exact⟨b,l,cap,rfl,a,fun h=>by rw[d]at h;simp at h,f⟩
  ·have b:qZ s.data.toList=false:=by simpa using d
   have:=c b;subst this;exact⟨O,0,0,rfl,a,fun _=>rfl,f⟩
def zaP (T:List UInt8)(m:Nat):Bool:=okD (Lib.cut T [47]).1 m&&(!(Lib.cut T [47]).2.2||(okD (Lib.cut T [47]).2.1 m&&decide (qd (Lib.cut T [47]).2.1≠0)))
def zcR (T:List UInt8):Nat:=if (Lib.cut T [47]).2.2 then qd (Lib.cut T [47]).2.1 else 1
theorem zi7 {A:List UInt8}{m:Nat}(h:okD A m=true):qd A<10000^(m+1):=by
 unfold okD at h;simp only[ZQ,Qw]at h;have a:=zcz h.2.2;rw[pow4];exact zv a (qz om om)
theorem zno {T:List UInt8}{k:Nat}(b:k<T.length)(a:T[k]=47)(c:∀i (h:i<k),T[i]' om≠47):Lib.cut T [47]=(T.take k,T.drop (k+1),true):=by
 have e:T=T.take k++47::T.drop (k+1):=by
  conv=>lhs;rw[<-Qf k T,Zn b,a]
 conv=>lhs;rw[e]
 refine cut_at _ _ ?_;intro a a;obtain⟨i,b,rfl⟩:=QS a;rw[zb5];exact c i (by rw[zU]at b;omega)
theorem zog {T:List UInt8}(c:∀i (h:i<T.length),T[i]≠47):Lib.cut T [47]=(T,[],false):=by
 refine zgD T ?_;intro a a;obtain⟨i,b,rfl⟩:=QS a;exact c i b
theorem read_any (s:ByteArray)(m:Nat)(w:H)(hs:s.size<=9223372036854775807)(hm:m<=1000000):
 Calls pg 102 #[gS s,it .i64 (m:Nat)] w fun e w'=>∃b ao l cap aD W aq,e= .returned (tp #[ag #[G b,V ao l cap,V aD W aq],G (zaP (Lib.trimPrefix s.data.toList [45]) m)])/\
  (zaP (Lib.trimPrefix s.data.toList [45]) m=true->qe w' (ag #[G b,V ao l cap,V aD W aq]) (sg (Lib.hasPrefix s.data.toList [45]) (qd (Lib.cut (Lib.trimPrefix s.data.toList [45]) [47]).1)/(Nat.gcd (qd (Lib.cut (Lib.trimPrefix s.data.toList [45]) [47]).1) (zcR (Lib.trimPrefix s.data.toList [45])):Int)) (zcR (Lib.trimPrefix s.data.toList [45])/Nat.gcd (qd (Lib.cut (Lib.trimPrefix s.data.toList [45]) [47]).1) (zcR (Lib.trimPrefix s.data.toList [45]))))/\Below w.heap.size w w':=by
 have ab:qk (w.alloc (cl #[G false,V O 0 0,V O 0 0] 118)) w.heap.size (G false) (V O 0 0) (V O 0 0):=qk.new _ _ _ _ _;have P:Below w.heap.size w (w.alloc (cl #[G false,V O 0 0,V O 0 0] 118)):=(zR _ _).alloc (zh _) _;obtain⟨T,hT⟩:∃T:ByteArray,T.data.toList=Lib.trimPrefix s.data.toList [45]:=⟨⟨(Lib.trimPrefix s.data.toList [45]).toArray⟩,sp⟩;obtain⟨g,hneg⟩:∃g,Lib.hasPrefix s.data.toList [45]=g:=⟨_,rfl⟩;rw[<-hT,hneg];have aO:T.size<=s.size:=by
  rw[<-qN T,<-qN s,hT,Lib.trimPrefix];split
  ·simp
  ·exact zh _
 have r:Hid ((s=⟨#[]⟩->g=false/\T=s)/\(∀h:0<s.size,s[0].toNat=45->g=true/\T=s.extract 1 s.size)/\(∀h:0<s.size,s[0].toNat≠45->g=false/\T=s)):=by
  rw[Hid];obtain⟨⟨l⟩⟩:=s;have ar:T.data.toList=Lib.trimPrefix l [45]:=hT;have ax:Lib.hasPrefix l [45]=g:=hneg;refine⟨fun e=>?_,fun h e=>?_,fun h e=>?_⟩
  ·obtain rfl:l= []:=by simpa using e
   exact⟨by rw[<-ax];rfl,ze2 ar⟩
  ·cases l with
   |nil=>simp[ByteArray.size]at h
   |cons a5 aJ=>
    obtain rfl:a5=45:=JY e;refine⟨by rw[<-ax];simp[Lib.hasPrefix],?_⟩;rw[ze2 ar];apply Eq.symm;apply ze2;rw[jC];simp[Lib.trimPrefix,Lib.hasPrefix]
  ·cases l with
   |nil=>simp[ByteArray.size]at h
   |cons a5 aJ=>
    have R:a5≠45:=by rintro rfl;exact e rfl
    have hp:Lib.hasPrefix (a5::aJ) [45]=false:=by simp[Lib.hasPrefix,List.isPrefixOf,Qi R]
    exact⟨by rw[<-ax,hp],ze2 (by rw[ar,Lib.trimPrefix,hp];rfl)⟩
 clear hT hneg;have aP:T.size<=9223372036854775807:=om;obtain⟨L,hL⟩:∃L,T.data.toList=L:=⟨_,rfl⟩;have aV:L.length=T.size:=by rw[<-hL];exact qN T
 have HG:Hid (∀(a4:Nat) (h:a4<T.size),T[a4]=L[a4]' om):=by
  rw[Hid];intro a4 h;subst hL;rfl
 rw[hL];have HL:=zi hL;clear hL;generalize aT:w.alloc (cl #[G false,V O 0 0,V O 0 0] 118)=wA at *;go_enter func102,ntmps102
 go_upto_region 1 with fail
 clear aT;go_cut [6] (fun J wc=>J=G g/\wA=wc)
 case first=>
  by_cases S:s=⟨#[]⟩
  ·obtain⟨rfl,_⟩:=r.out.1 S;subst S;clear r;go_wp2_with fail
   all_goals go_meet
   all_goals exact⟨rfl,rfl⟩
  ·have B:0<s.size:=by
    rcases Qc s.size with n|n
    ·exact absurd (ByteArray.ext (Ji n)) S
    ·exact n
   have aU:(0:Int)<(s.size:Int):=om;by_cases R:(s[0].toNat:Int)=45
   ·obtain⟨rfl,_⟩:=r.out.2.1 B om;clear r;go_wp2_with fail
    all_goals go_meet
    all_goals exact⟨rfl,rfl⟩
   ·obtain⟨rfl,_⟩:=r.out.2.2 B om;clear r;go_wp2_with fail
    all_goals go_meet
    all_goals exact⟨by simp[R],rfl⟩
 case rest=>
  obtain⟨rfl,rfl⟩:=hcut;have X:Hid ((g=true->0<s.size/\T=s.extract 1 s.size)/\(g=false->T=s)):=by
   rw[Hid];by_cases S:s=⟨#[]⟩
   ·obtain⟨o,t⟩:=r.out.1 S;exact⟨fun h=>by rw[o]at h;simp at h,fun _=>t⟩
   ·have B:0<s.size:=by
     rcases Qc s.size with n|n
     ·exact absurd (ByteArray.ext (Ji n)) S
     ·exact n
    by_cases R:s[0].toNat=45
    ·obtain⟨o,t⟩:=r.out.2.1 B R;exact⟨fun _=>⟨B,t⟩,fun h=>by rw[o]at h;simp at h⟩
    ·obtain⟨o,t⟩:=r.out.2.2 B R;exact⟨fun h=>by rw[o]at h;simp at h,fun _=>t⟩
  clear r;go_upto_if 19 with fail
  go_cut [0] (fun J wc=>J=gS T/\wA=wc)
  case first=>
   cases g with
   |true=>
    obtain⟨B,a8⟩:=X.out.1 rfl;have aM:=zi a8;clear X a8;go_wp2_with fail
    all_goals go_meet
    all_goals exact⟨by rw[aM.out],rfl⟩
   |false=>
    have a8:=X.out.2 rfl;subst a8;clear X;go_wp2_with fail
    all_goals go_meet
    all_goals exact⟨rfl,rfl⟩
  case rest=>
   obtain⟨rfl,rfl⟩:=hcut;clear X;clear hs aO;go_wp2_with fail
   go_loop [7] (fun J=>∃k:Nat,k<=T.size/\J=it .i64 (k:Nat)/\Hid (∀i (h:i<k) (n:i<L.length),L[i]≠47)) (fun J=>((T.size:Int)-intOf J).toNat)
   case atStart=>exact⟨0,om,rfl,by rw[Hid];intro i h;omega⟩
   case round=>
    obtain⟨k,_,rfl,U⟩:=hrel;by_cases aR:k<T.size
    ·have aW:(k:Int)<(T.size:Int):=om;have ad:=HG.out k aR;by_cases aE:(T[k].toNat:Int)=47
     ·have aH:L[k]' om=47:=by
       rw[<-ad];exact JY (by
        have:T[k].toNat=47:=om;exact this)
      have hcut:=zno (T:=L) om aH (fun i h=>U.out i h om);clear ad aH U;have aj:Hid ((Lib.cut L [47]).1=L.take k):=by rw[Hid,hcut]
      have ak:Hid (zcR L=qd (L.drop (k+1))):=by rw[Hid,zcR,hcut];rfl
      have v:Hid (zaP L m=(okD (L.take k) m&&(okD (L.drop (k+1)) m&&decide (qd (L.drop (k+1))≠0)))):=by rw[Hid,zaP,hcut];rfl
      have M:(T.extract 0 k).data.toList=L.take k:=by rw[QP,Zd,jO,HL.out]
      have eB:(T.extract (k+1) T.size).data.toList=L.drop (k+1):=by rw[jC,HL.out]
      have I:=fun Y=>ze3 (T.extract 0 k) m Y (by rw[<-qN,M,zU];omega) om
      have aC:=fun Y=>ze3 (T.extract (k+1) T.size) m Y (by rw[<-qN,eB,qu];omega) om
      simp only[M]at I;simp only[eB]at aC;have al:=zi I;have aL:=zi aC;clear I aC M eB hcut;generalize L.take k=af at *;generalize L.drop (k+1)=K at *;go_wp2_with fail
      refine(al.out _).mono ?_;rintro e w1 ⟨ao,l,cap,rfl,o,t,C⟩;have u:=ab.below C;have q:=P.trans (C.mono P.size);clear C ab P;by_cases p:okD af m=true
      ·have a6:=o p;have ah:=zi (zi7 p);have an:Hid (zaP L m=(okD K m&&decide (qd K≠0))):=by rw[Hid,v.out,p,ZE]
       have a7:=a6.alloc (cl #[it .i64 1] 3);have a1:=u.alloc (cl #[it .i64 1] 3);have Q:=q.alloc q.size (cl #[it .i64 1] 3);rw[p];clear o t v;go_wp2_with fail
       refine(aL.out _).mono ?_;rintro e w3 ⟨_,W,aq,rfl,g1,_,a9⟩;have aN:=a7.below a9;have aG:=a1.below a9;have aa:=Q.trans (a9.mono Q.size);clear a9 a1 Q a7 u q a6;have aw:=aG;obtain⟨c,d,f,x,y,z,A⟩:=aw;by_cases N:okD K m=true
       ·have hD:=g1 N;have a3:=zi (zi7 N);have ae:=zcK hD a3.out;rw[N];by_cases F:qd K=0
        ·have aI:=ae.2.2 F;have j:Hid (zaP L m=false):=by rw[Hid,an.out,N,ZB (fun h=>h F)];rfl
         subst aI;clear ae F;go_wp2;exact zH (v:=tp #[ag #[G false,V O 0 0,V O 0 0],G false]) (by simp[results,results102,go_sem,c,d,f]) rfl ⟨false,O,0,0,O,0,0,by rw[j.out],fun h=>absurd (j.out.symm.trans h) dc,Z9 aa (zh _) _ _ _⟩
        ·have ap:Hid (zaP L m=true):=by rw[Hid,an.out,N,qH F];rfl
         have ai:=zi F;have aI:¬W=0:=fun e=>F (ae.2.1 e)
         have aX:(W:Int)≠0:=om;clear ae F;go_wp2_with fail
         refine(lowest_any _ g _ _ (qd af) (qd K) (m+1) aN hD ah.out a3.out ai.out om).mono ?_;rintro e w5 ⟨t5,rfl,h5,D⟩;obtain⟨Z,o5,l5,k5,p5,n5,q5,rfl,ay,az,aA,aB⟩:=h5.parts;have av:=aG.below D;have au:=aa.trans (D.mono aa.size);clear D c d f x y z A;obtain⟨c,d,f,x,y,z,A⟩:=av;go_wp2;exact zH (v:=tp #[ag #[G Z,V o5 l5 k5,V p5 n5 q5],G true]) (by simp[results,results102,go_sem,c,d,f]) rfl ⟨Z,o5,l5,k5,p5,n5,q5,by rw[ap.out],fun _=>by rw[aj.out,ak.out];exact zaH ay az aA aB c d f,Z9 au (zh _) _ _ _⟩
       ·have aF:okD K m=false:=by simpa using N
        have j:Hid (zaP L m=false):=by rw[Hid,an.out,aF];rfl
        rw[aF];go_wp2;exact zH (v:=tp #[ag #[G false,V O 0 0,V O 0 0],G false]) (by simp[results,results102,go_sem,c,d,f]) rfl ⟨false,O,0,0,O,0,0,by rw[j.out],fun h=>absurd (j.out.symm.trans h) dc,Z9 aa (zh _) _ _ _⟩
      ·have a0:okD af m=false:=by simpa using p
       have j:Hid (zaP L m=false):=by rw[Hid,v.out,a0];rfl
       rw[a0];have hS:=(qk.stored (b:=false) (a:=O) (l:=0) (k:=0) (a2:=O) (l2:=0) (k2:=0) u).alloc (cl #[it .i64 1] 3);obtain⟨c,d,f,x,y,z,A⟩:=hS;obtain⟨d0,d1,d2,d3,d4,d5,d6⟩:=u;go_wp2;exact zH (v:=tp #[ag #[G false,V O 0 0,V O 0 0],G false]) (by simp[results,results102,go_sem,c,d,f]) rfl ⟨false,O,0,0,O,0,0,by rw[j.out],fun h=>absurd (j.out.symm.trans h) dc,(Z9 q (zh _) _ _ _).alloc (by have:=q.size;simp;omega) _⟩
     ·have aK:Hid (∀i (h:i<k+1) (n:i<L.length),L[i]≠47):=by
       rw[Hid];intro i h n;by_cases aQ:i=k
       ·subst aQ;rw[<-ad];intro e;rw[e]at aE;exact aE rfl
       ·exact U.out i om n
      clear ad U;go_wp2;go_round
      case rel=>exact⟨k+1,om,by go_num,aK⟩
      case measure=>simp[intOf];omega
    ·obtain rfl:k=T.size:=om;have hcut:=zog (T:=L) (fun i h=>U.out i om h);clear U;have aj:Hid ((Lib.cut L [47]).1=L):=by rw[Hid,hcut]
     have ak:Hid (zcR L=1):=by rw[Hid,zcR,hcut];rfl
     have v:Hid (zaP L m=okD L m):=by rw[Hid,zaP,hcut];simp
     have M:=HL.out;have I:=fun Y=>ze3 T m Y aP om
     simp only[M]at I;have al:=zi I;clear I M hcut;go_wp2_with fail
     refine(al.out _).mono ?_;rintro e w1 ⟨ao,l,cap,rfl,o,t,C⟩;have u:=ab.below C;have q:=P.trans (C.mono P.size);clear C ab P;by_cases p:okD L m=true
     ·have a6:=o p;have ah:=zi (zi7 p);have a3:Hid (1<10000^(m+1)):=by rw[Hid];exact zdc om om
      have ai:Hid ((1:Nat)≠0):=by rw[Hid];omega
      have ap:Hid (zaP L m=true):=by rw[Hid,v.out,p]
      have a7:=a6.alloc (cl #[it .i64 1] 3);have a1:=u.alloc (cl #[it .i64 1] 3);have Q:=q.alloc q.size (cl #[it .i64 1] 3);have aS:=zg0 w1 1 om om;have aw:=a1;obtain⟨c,d,f,x,y,z,A⟩:=aw;rw[p];clear o t v u q;go_wp2_with fail
      refine(lowest_any _ g _ _ (qd L) (1) (m+1) a7 aS ah.out a3.out ai.out om).mono ?_;rintro e w5 ⟨t5,rfl,h5,D⟩;obtain⟨Z,o5,l5,k5,p5,n5,q5,rfl,ay,az,aA,aB⟩:=h5.parts;have av:=a1.below D;have au:=Q.trans (D.mono Q.size);clear D c d f x y z A;obtain⟨c,d,f,x,y,z,A⟩:=av;go_wp2;exact zH (v:=tp #[ag #[G Z,V o5 l5 k5,V p5 n5 q5],G true]) (by simp[results,results102,go_sem,c,d,f]) rfl ⟨Z,o5,l5,k5,p5,n5,q5,by rw[ap.out],fun _=>by rw[aj.out,ak.out];exact zaH ay az aA aB c d f,Z9 au (zh _) _ _ _⟩
     ·have a0:okD L m=false:=by simpa using p
      have j:Hid (zaP L m=false):=by rw[Hid,v.out,a0]
      rw[a0];have hS:=(qk.stored (b:=false) (a:=O) (l:=0) (k:=0) (a2:=O) (l2:=0) (k2:=0) u).alloc (cl #[it .i64 1] 3);obtain⟨c,d,f,x,y,z,A⟩:=hS;obtain⟨d0,d1,d2,d3,d4,d5,d6⟩:=u;go_wp2;exact zH (v:=tp #[ag #[G false,V O 0 0,V O 0 0],G false]) (by simp[results,results102,go_sem,c,d,f]) rfl ⟨false,O,0,0,O,0,0,by rw[j.out],fun h=>absurd (j.out.symm.trans h) dc,(Z9 q (zh _) _ _ _).alloc (by have:=q.size;simp;omega) _⟩
def rOk (l:List UInt8):Bool:=zaP (Lib.trimPrefix l [45]) 40
def rA (l:List UInt8):Nat:=qd (Lib.cut (Lib.trimPrefix l [45]) [47]).1
def rD (l:List UInt8):Nat:=zcR (Lib.trimPrefix l [45])
def rP (l:List UInt8):Int:=sg (Lib.hasPrefix l [45]) (rA l)/(Nat.gcd (rA l) (rD l):Int)
def rQ (l:List UInt8):Nat:=rD l/Nat.gcd (rA l) (rD l)
theorem zoh {A:List UInt8}{m:Nat}(h:okD A m=true):qd A<10^m:=by
 unfold okD at h;simp only[ZQ,Qw]at h;exact zv (zcz h.2.2) (qz om h.2.1)
theorem zoi (s:ByteArray)(w:H)(hs:s.size<=9223372036854775807):
 Calls pg 102 #[gS s,it .i64 40] w fun e w'=>∃b a l cap c f d,e= .returned (tp #[ag #[G b,V a l cap,V c f d],G (rOk s.data.toList)])/\
  (rOk s.data.toList=true->qe w' (ag #[G b,V a l cap,V c f d]) (rP s.data.toList) (rQ s.data.toList))/\Below w.heap.size w w':=
 read_any s 40 w hs om
def resT (op:Int)(p r:Int)(q s:Nat):List UInt8×Int:=
 if op=1 then(zf3 (p*s+r*q) (q*s),0)else if op=2 then(zf3 (p*s+(-r)*q) (q*s),0)else if op=3 then(zf3 (p*r) (q*s),0)
 else if op=4 then(if r=0 then([],3)else(zf3 (p*s*r.sign) (q*r.natAbs),0))else if op=5 then(Lib.itoa (p/(q:Int)),0)else(Lib.itoa (if p*(s:Int)<r*(q:Int)then 1 else 0),0)
end Go.Proofs.YtnhfdcfnojnofaaGreatDoor.T
namespace Go.Proofs.YtnhfdcfnojnofaaGreatDoor
open Go.RowKit
theorem zes (l:List UInt8):Lib.indexByte l 47=Lib.index l [47]:=by
 induction l with
 |nil=>rfl
 |cons c r a=>
  simp only[Lib.indexByte,Lib.index,a];by_cases h:c=47
  ·subst h;simp
  ·have a:([47]:List UInt8).isPrefixOf (c::r)=false:=by simp[List.isPrefixOf,Qi h]
   simp[h,a]
theorem zi8 (s:ByteArray)(w:H):
 Calls pg 212 #[gS s,gS ⟨#[47]⟩] w fun e w'=>e= .returned (it .i64 (Lib.index s.data.toList [47]))/\w'=w:=by
 by_cases h:s=⟨#[47]⟩
 ·subst h;go_enter func212,ntmps212
  go_wp2;go_ret;exact⟨rfl,rfl⟩
 ·have a:(([47]:List UInt8) == s.toList)=false:=by
   rw[qO,ZT];intro e;exact h (by obtain⟨⟨_⟩⟩:=s;simp at e;rw[<-e])
  have a:=zi (zes s.data.toList);go_enter func212,ntmps212
  go_wp2_with fail
  refine(Tryz.stringslite_IndexByte s 47 _).mono ?_;rintro e b ⟨rfl,rfl⟩;go_wp2;go_ret;exact⟨QW a.out,rfl⟩
theorem znp (l:List UInt8):-1<=Lib.index l [47]/\Lib.index l [47]<l.length\/Lib.index l [47]=-1:=by
 by_cases h:Lib.index l [47]=-1
 ·exact Or.inr h
 ·left
  refine⟨zcI _ _,?_⟩;rw[<-zes]at h⊢;have a:=zcq l 47;obtain⟨o,ho⟩:∃o:Nat,Lib.indexByte l 47=(o:Int):=⟨(Lib.indexByte l 47).toNat,om⟩;rw[ho];have a:=(zbN ho).1;have b:=(zn.1 a).1;omega
theorem zl4 (s:ByteArray)(w:H)(hs:s.size<=9223372036854775807):
 Calls pg 127 #[gS s,gS ⟨#[47]⟩] w fun e w'=>e= .returned (tp #[gS ⟨(Lib.cut s.data.toList [47]).1.toArray⟩,gS ⟨(Lib.cut s.data.toList [47]).2.1.toArray⟩,G (Lib.cut s.data.toList [47]).2.2])/\∃n,w'=w.drewN n:=by
 have g:=znp s.data.toList;rw[qN]at g;have a:=qN s;have h:=zi (zi8 s);have b:Hid (Lib.cut s.data.toList [47]=if 0<=Lib.index s.data.toList [47]then(s.data.toList.take (Lib.index s.data.toList [47]).toNat,s.data.toList.drop ((Lib.index s.data.toList [47]).toNat+1),true)else(s.data.toList,[],false)):=by rw[Hid,Lib.cut];rfl
 generalize Lib.index s.data.toList [47]=z at *;by_cases c:0<=z
 ·obtain⟨k,rfl⟩:∃k:Nat,z=(k:Int):=⟨z.toNat,om⟩;have a:=b.out;rw[z8 c,jJ]at a;have d:=zi a;have f:ByteArray.mk (s.data.toList.take k).toArray=s.extract 0 k:=(T.ze2 (by rw[QP,Zd,jO])).symm;have i:ByteArray.mk (s.data.toList.drop (k+1)).toArray=s.extract (k+1) s.size:=(T.ze2 (by rw[jC])).symm;have j:=zi f;have l:=zi i;have m:k<s.size:=om;clear a b f i g c;go_enter func127,ntmps127
  go_wp2_with fail
  refine(h.out _).mono ?_;rintro e i ⟨rfl,rfl⟩;go_wp2;go_region
  all_goals go_wp2
  all_goals exact zH (v:=tp #[gS (s.extract 0 k),gS (s.extract (k+1) s.size),G true]) (by simp[results,results127,go_sem]) rfl ⟨by rw[d.out,j.out,l.out],1,rfl⟩
 ·obtain rfl:z=-1:=om;have a:=b.out;rw[zW c]at a;have d:=zi a;have f:ByteArray.mk s.data.toList.toArray=s:=rfl;clear a b g c;go_enter func127,ntmps127
  go_wp2_with fail
  refine(h.out _).mono ?_;rintro e i ⟨rfl,rfl⟩;go_wp2;exact zH (v:=tp #[gS s,gS ⟨#[]⟩,G false]) (by simp[results,results127,go_sem]) rfl ⟨by rw[d.out],0,rfl⟩
theorem zhz (s:ByteArray)(w:H)(hs:s.size<=9223372036854775807):
 Calls pg 73 #[gS s,gS ⟨#[47]⟩] w fun e w'=>e= .returned (tp #[gS ⟨(Lib.cut s.data.toList [47]).1.toArray⟩,gS ⟨(Lib.cut s.data.toList [47]).2.1.toArray⟩,G (Lib.cut s.data.toList [47]).2.2])/\∃n,w'=w.drewN n:=by
 have a:=zi (fun W=>zl4 s W hs);generalize Lib.cut s.data.toList [47]=c at *;go_enter func73,ntmps73
 go_wp2_with fail
 refine(a.out _).mono ?_;rintro e a ⟨rfl,q,rfl⟩;go_wp2;exact zH (v:=tp #[gS ⟨c.1.toArray⟩,gS ⟨c.2.1.toArray⟩,G c.2.2]) (by simp[results,results73,go_sem]) rfl ⟨rfl,q,rfl⟩
end Go.Proofs.YtnhfdcfnojnofaaGreatDoor
namespace Go.Proofs.YtnhfdcfnojnofaaGreatDoor.T
open Go.RowKit
def QG (l:List UInt8):Bool:=okD (Lib.cut l [58]).1 l.length&&zaP (Lib.trimPrefix (Lib.cut l [58]).2.1 [45]) l.length
def partN (l:List UInt8):Nat:=qd (Lib.cut l [58]).1
def partP (l:List UInt8):Int:=rP (Lib.cut l [58]).2.1
def partQ (l:List UInt8):Nat:=rQ (Lib.cut l [58]).2.1
theorem ze4 (c:UInt8):∀l:List UInt8,(Lib.cut l [c]).2.2=true->l=(Lib.cut l [c]).1++c::(Lib.cut l [c]).2.1
 |[],h=>by rw[zgy]at h;cases h
 |x::r,h=>by
  by_cases a:x=c
  ·subst a;rw[zd8];rfl
  ·rw[zdw a]at h⊢;have:=ze4 c r h;show x::r=x::((Lib.cut r [c]).1++c::(Lib.cut r [c]).2.1)
   rw[<-this]
theorem cut_at {c:UInt8}{l:List UInt8}{i:Nat}(d:i<(Lib.cut l [c]).1.length):∃h:i<l.length,l[i]=(Lib.cut l [c]).1[i]:=by
 cases hb:(Lib.cut l [c]).2.2 with
 |false=>
  have b:=zb0 hb;have a:(Lib.cut l [c]).1=l:=by rw[b]
  have e:i<l.length:=by rw[a]at d;exact d
  refine⟨e,?_⟩;simp only[a]
 |true=>
  have b:=ze4 c l hb;have e:i<l.length:=by rw[b,zX];omega
  refine⟨e,?_⟩;have a:l[i]? =(Lib.cut l [c]).1[i]?:=by
   conv=>lhs;rw[b]
   rw[zM d]
  rw[zj e,zj d]at a;exact qV a
theorem znq {c:UInt8}{l:List UInt8}:l.take (Lib.cut l [c]).1.length=(Lib.cut l [c]).1:=by
 cases hb:(Lib.cut l [c]).2.2 with
 |false=>
  have a:(Lib.cut l [c]).1=l:=by rw[zb0 hb]
  rw[a,Zw]
 |true=>
  have a:=ze4 c l hb;conv=>lhs;rw[a]
  rw[List.take_left'];rw[<-a]
theorem cut_le (c:UInt8)(l:List UInt8):(Lib.cut l [c]).1.length<=l.length:=by
 have:=zao c l;omega
theorem znr {c:UInt8}{l:List UInt8}(h:(Lib.cut l [c]).1.length<l.length):(Lib.cut l [c]).2.2=true/\l[(Lib.cut l [c]).1.length]=c/\l.drop ((Lib.cut l [c]).1.length+1)=(Lib.cut l [c]).2.1:=by
 cases hb:(Lib.cut l [c]).2.2 with
 |false=>
  have a:(Lib.cut l [c]).1=l:=by rw[zb0 hb]
  rw[a]at h;omega
 |true=>
  have a:=ze4 c l hb;refine⟨rfl,?_,?_⟩
  ·have b:l[(Lib.cut l [c]).1.length]? =E c:=by
    conv=>lhs;rw[a]
    rw[zJ (by rw[<-a];exact zh _)];rw[<-a,Zy];rfl
   rw[zj h]at b;exact qV b
  ·conv=>lhs;rw[a]
   rw[<-j7,List.drop_left'];·rfl
   ·rw[<-a]
theorem zns (v d M:Nat):min (min v M*10+d) M=min (v*10+d) M:=by omega
end Go.Proofs.YtnhfdcfnojnofaaGreatDoor.T
