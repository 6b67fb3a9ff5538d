import Derived.Test.YtnhfdcfnojnofaaGreatDoorAds1Z18
open Option renaming none->O,some->E
open Go.Value renaming slice->V,bool->G,string->gS,pointer->pn,tuple->tp,int->it,agg->ag
open Go.Obj renaming cells->cl
open Go renaming World->H
open Go.Proofs.Tryz renaming prog->pg
open Go.Proofs.Tryz
set_option linter.unusedSimpArgs false
set_option linter.unusedVariables false
set_option maxHeartbeats 2000000
set_option maxRecDepth 100000
namespace Go.Proofs.YtnhfdcfnojnofaaGreatDoor
open Go.RowKit
theorem zl8 (s:ByteArray)(w:H):
 Calls pg 212 #[gS s,gS ⟨#[10]⟩] w fun e w'=>e= .returned (it .i64 (Lib.index s.data.toList [10]))/\w'=w:=by
 by_cases h:s=⟨#[10]⟩
 ·subst h;go_enter func212,ntmps212
  go_wp2;go_ret;exact⟨rfl,rfl⟩
 ·have a:(([10]:List UInt8) == s.toList)=false:=by
   rw[qO,ZT];intro e;exact h (by obtain⟨⟨_⟩⟩:=s;simp at e;rw[<-e])
  have a:=zi (zeN s.data.toList 10);go_enter func212,ntmps212
  go_wp2_with fail
  refine(Tryz.stringslite_IndexByte s 10 _).mono ?_;rintro e b ⟨rfl,rfl⟩;go_wp2;go_ret;exact⟨QW a.out,rfl⟩
theorem zjh (l:List UInt8):-1<=Lib.index l [10]/\Lib.index l [10]<l.length\/Lib.index l [10]=-1:=by
 by_cases h:Lib.index l [10]=-1
 ·exact Or.inr h
 ·left
  refine⟨zcI _ _,?_⟩;rw[<-zeN]at h⊢;have a:=zcq l 10;obtain⟨o,ho⟩:∃o:Nat,Lib.indexByte l 10=(o:Int):=⟨(Lib.indexByte l 10).toNat,om⟩;rw[ho];have a:=(zbN ho).1;have b:=(zn.1 a).1;omega
theorem ziu (s:ByteArray)(w:H)(hs:s.size<=9223372036854775807):
 Calls pg 127 #[gS s,gS ⟨#[10]⟩] w fun e w'=>e= .returned (tp #[gS ⟨(Lib.cut s.data.toList [10]).1.toArray⟩,gS ⟨(Lib.cut s.data.toList [10]).2.1.toArray⟩,G (Lib.cut s.data.toList [10]).2.2])/\∃n,w'=w.drewN n:=by
 have g:=zjh s.data.toList;rw[qN]at g;have a:=qN s;have h:=zi (zl8 s);have b:Hid (Lib.cut s.data.toList [10]=if 0<=Lib.index s.data.toList [10]then(s.data.toList.take (Lib.index s.data.toList [10]).toNat,s.data.toList.drop ((Lib.index s.data.toList [10]).toNat+1),true)else(s.data.toList,[],false)):=by rw[Hid,Lib.cut];rfl
 generalize Lib.index s.data.toList [10]=z at *;by_cases c:0<=z
 ·obtain⟨k,rfl⟩:∃k:Nat,z=(k:Int):=⟨z.toNat,om⟩;have a:=b.out;rw[z8 c,jJ]at a;have d:=zi a;have f:ByteArray.mk (s.data.toList.take k).toArray=s.extract 0 k:=(T.ze2 (by rw[QP,Zd,jO])).symm;have i:ByteArray.mk (s.data.toList.drop (k+1)).toArray=s.extract (k+1) s.size:=(T.ze2 (by rw[jC])).symm;have j:=zi f;have l:=zi i;have m:k<s.size:=om;clear a b f i g c;go_enter func127,ntmps127
  go_wp2_with fail
  refine(h.out _).mono ?_;rintro e i ⟨rfl,rfl⟩;go_wp2;go_region
  all_goals go_wp2
  all_goals exact zH (v:=tp #[gS (s.extract 0 k),gS (s.extract (k+1) s.size),G true]) (by simp[results,results127,go_sem]) rfl ⟨by rw[d.out,j.out,l.out],1,rfl⟩
 ·obtain rfl:z=-1:=om;have a:=b.out;rw[zW c]at a;have d:=zi a;have f:ByteArray.mk s.data.toList.toArray=s:=rfl;clear a b g c;go_enter func127,ntmps127
  go_wp2_with fail
  refine(h.out _).mono ?_;rintro e i ⟨rfl,rfl⟩;go_wp2;exact zH (v:=tp #[gS s,gS ⟨#[]⟩,G false]) (by simp[results,results127,go_sem]) rfl ⟨by rw[d.out],0,rfl⟩
theorem zok (s:ByteArray)(w:H)(hs:s.size<=9223372036854775807):
 Calls pg 73 #[gS s,gS ⟨#[10]⟩] w fun e w'=>e= .returned (tp #[gS ⟨(Lib.cut s.data.toList [10]).1.toArray⟩,gS ⟨(Lib.cut s.data.toList [10]).2.1.toArray⟩,G (Lib.cut s.data.toList [10]).2.2])/\∃n,w'=w.drewN n:=by
 have a:=zi (fun W=>ziu s W hs);generalize Lib.cut s.data.toList [10]=c at *;go_enter func73,ntmps73
 go_wp2_with fail
 refine(a.out _).mono ?_;rintro e a ⟨rfl,q,rfl⟩;go_wp2;exact zH (v:=tp #[gS ⟨c.1.toArray⟩,gS ⟨c.2.1.toArray⟩,G c.2.2]) (by simp[results,results73,go_sem]) rfl ⟨rfl,q,rfl⟩
theorem zjV (s:ByteArray)(w:H):
 Calls pg 212 #[gS s,gS ⟨#[32]⟩] w fun e w'=>e= .returned (it .i64 (Lib.index s.data.toList [32]))/\w'=w:=by
 by_cases h:s=⟨#[32]⟩
 ·subst h;go_enter func212,ntmps212
  go_wp2;go_ret;exact⟨rfl,rfl⟩
 ·have a:(([32]:List UInt8) == s.toList)=false:=by
   rw[qO,ZT];intro e;exact h (by obtain⟨⟨_⟩⟩:=s;simp at e;rw[<-e])
  have a:=zi (zeN s.data.toList 32);go_enter func212,ntmps212
  go_wp2_with fail
  refine(Tryz.stringslite_IndexByte s 32 _).mono ?_;rintro e b ⟨rfl,rfl⟩;go_wp2;go_ret;exact⟨QW a.out,rfl⟩
theorem zhE (l:List UInt8):-1<=Lib.index l [32]/\Lib.index l [32]<l.length\/Lib.index l [32]=-1:=by
 by_cases h:Lib.index l [32]=-1
 ·exact Or.inr h
 ·left
  refine⟨zcI _ _,?_⟩;rw[<-zeN]at h⊢;have a:=zcq l 32;obtain⟨o,ho⟩:∃o:Nat,Lib.indexByte l 32=(o:Int):=⟨(Lib.indexByte l 32).toNat,om⟩;rw[ho];have a:=(zbN ho).1;have b:=(zn.1 a).1;omega
theorem zg3 (s:ByteArray)(w:H)(hs:s.size<=9223372036854775807):
 Calls pg 127 #[gS s,gS ⟨#[32]⟩] w fun e w'=>e= .returned (tp #[gS ⟨(Lib.cut s.data.toList [32]).1.toArray⟩,gS ⟨(Lib.cut s.data.toList [32]).2.1.toArray⟩,G (Lib.cut s.data.toList [32]).2.2])/\∃n,w'=w.drewN n:=by
 have g:=zhE s.data.toList;rw[qN]at g;have a:=qN s;have h:=zi (zjV s);have b:Hid (Lib.cut s.data.toList [32]=if 0<=Lib.index s.data.toList [32]then(s.data.toList.take (Lib.index s.data.toList [32]).toNat,s.data.toList.drop ((Lib.index s.data.toList [32]).toNat+1),true)else(s.data.toList,[],false)):=by rw[Hid,Lib.cut];rfl
 generalize Lib.index s.data.toList [32]=z at *;by_cases c:0<=z
 ·obtain⟨k,rfl⟩:∃k:Nat,z=(k:Int):=⟨z.toNat,om⟩;have a:=b.out;rw[z8 c,jJ]at a;have d:=zi a;have f:ByteArray.mk (s.data.toList.take k).toArray=s.extract 0 k:=(T.ze2 (by rw[QP,Zd,jO])).symm;have i:ByteArray.mk (s.data.toList.drop (k+1)).toArray=s.extract (k+1) s.size:=(T.ze2 (by rw[jC])).symm;have j:=zi f;have l:=zi i;have m:k<s.size:=om;clear a b f i g c;go_enter func127,ntmps127
  go_wp2_with fail
  refine(h.out _).mono ?_;rintro e i ⟨rfl,rfl⟩;go_wp2;go_region
  all_goals go_wp2
  all_goals exact zH (v:=tp #[gS (s.extract 0 k),gS (s.extract (k+1) s.size),G true]) (by simp[results,results127,go_sem]) rfl ⟨by rw[d.out,j.out,l.out],1,rfl⟩
 ·obtain rfl:z=-1:=om;have a:=b.out;rw[zW c]at a;have d:=zi a;have f:ByteArray.mk s.data.toList.toArray=s:=rfl;clear a b g c;go_enter func127,ntmps127
  go_wp2_with fail
  refine(h.out _).mono ?_;rintro e i ⟨rfl,rfl⟩;go_wp2;exact zH (v:=tp #[gS s,gS ⟨#[]⟩,G false]) (by simp[results,results127,go_sem]) rfl ⟨by rw[d.out],0,rfl⟩
theorem zh7 (s:ByteArray)(w:H)(hs:s.size<=9223372036854775807):
 Calls pg 73 #[gS s,gS ⟨#[32]⟩] w fun e w'=>e= .returned (tp #[gS ⟨(Lib.cut s.data.toList [32]).1.toArray⟩,gS ⟨(Lib.cut s.data.toList [32]).2.1.toArray⟩,G (Lib.cut s.data.toList [32]).2.2])/\∃n,w'=w.drewN n:=by
 have a:=zi (fun W=>zg3 s W hs);generalize Lib.cut s.data.toList [32]=c at *;go_enter func73,ntmps73
 go_wp2_with fail
 refine(a.out _).mono ?_;rintro e a ⟨rfl,q,rfl⟩;go_wp2;exact zH (v:=tp #[gS ⟨c.1.toArray⟩,gS ⟨c.2.1.toArray⟩,G c.2.2]) (by simp[results,results73,go_sem]) rfl ⟨rfl,q,rfl⟩
attribute [local go_sem] qm
def zf8 (k:Nat)(x:List UInt8×Bool)(last:Bool):Array Value:=#[ag #[it .i64 ((k+1:Nat):Int),gS ⟨x.1.toArray⟩,G x.2,G last]]
def JS:Nat->List (List UInt8×Bool)->List (Array Value)
 |_,[]=> []
 |k,x::r=>zf8 k x r.isEmpty::JS (k+1) r
theorem zfL {f:Nat}{l:List UInt8}(h:l.length<=f):(jR f l).isEmpty=l.isEmpty:=by
 by_cases a:l= []
 ·subst a;rw[ze0];simp
 ·obtain⟨f,rfl⟩:∃b,f=b+1:=⟨f-1,by have:=Zq.2 a;omega⟩;rw[jR,zW a];simp[a]
theorem zdV (k:Nat)(l:List (List UInt8×Bool)):(JS k l).length=l.length:=by
 induction l generalizing k with
 |nil=>rfl
 |cons x r a=>simp[JS,a]
theorem zji (s:List UInt8)(hs:s.length<=1000000000)(a:Nat):
 SeqL pg 237 #[pn (E ⟨a,0,O⟩)] (JS 0 (qE s)) (fun W=>W.cell? ⟨a,0,O⟩=E (gS ⟨s.toArray⟩)):=by
 obtain⟨b,hvs⟩:∃b,JS 0 (qE s)=b:=⟨_,rfl⟩;rw[hvs];have e:=zi hvs;clear hvs;intro m J a c W u a f a d;have g:=(f 0 c W d).1;have t:=zi a;clear a;refine zcE func237 ntmps237 (h:=?_);gi_wp2;gi_loopw [3,4] (fun r n wr=>∃(f k:Nat) (M:Nat->Prop) (a:List UInt8),r=gS ⟨a.toArray⟩/\n=it .i64 ((k+1:Nat):Int)/\a.length<=f/\a.length<=1000000000/\k<=b.length/\b.length<=1000000000/\Hid (b.drop k=JS k (jR f a))/\J k M wr)
  (fun r _ _=>zeL r)
 case atStart=>exact⟨s.length,0,c,s,rfl,rfl,zh _,hs,qp _,by rw[<-e.out,zdV];exact zL (zbd _ s).1 hs,e.out.symm,d⟩
 case round=>
  obtain⟨f,k,M,a,rfl,rfl,_,_,_,w,j,o⟩:=hrel;by_cases g:a= []
  ·subst g;gi_wp2;go_end0
   have d:=j.out;rw[ze0]at d;have q:=zcW.1 d;obtain rfl:k=b.length:=om;exact⟨⟨_,rfl⟩,.inl ⟨M,o⟩⟩
  ·have c:a.isEmpty=false:=by simpa using g
   obtain⟨f,rfl⟩:∃c,f=c+1:=⟨f-1,by have:=Zq.2 g;omega⟩;obtain⟨c,hcut⟩:∃c,Lib.cut a [10]=c:=⟨_,rfl⟩;have i:=zi hcut;clear hcut;gi_wp2;refine⟨trivial,rfl,(zS.2 (zok _ _ (by simp[ByteArray.size];omega))).mono ?_⟩;simp only[];rw[i.out];rintro e e ⟨rfl,e,rfl⟩;gi_wp2;have v:Below wr.heap.size wr (((((wr.alloc (cl #[it .i64 ((k:Int)+1),gS ⟨#[]⟩,G false,G false] 243)).drewN e).setCell ⟨wr.heap.size,1,O⟩ (gS ⟨c.1.toArray⟩)).setCell ⟨wr.heap.size,2,O⟩ (G c.2.2)).setCell ⟨wr.heap.size,3,O⟩ (G c.2.1.isEmpty)):=
    (((Below.drawn ((zR _ wr).alloc (zh _) _) e).setCell (p:=⟨wr.heap.size,1,O⟩) (zh _) _).setCell (p:=⟨wr.heap.size,2,O⟩) (zh _) _).setCell (p:=⟨wr.heap.size,3,O⟩) (zh _) _
   have d:=j.out;have e:=i.out;rw[jR,zW g,e,JS]at d;have l:b[k]? =E (zf8 k (c.1,c.2.2) (jR f c.2.1).isEmpty):=by
    have:=Zt (fun m=>m[0]?) d;simpa using this
   have n:b.drop (k+1)=JS (k+1) (jR f c.2.1):=by
    have:=Zt List.tail d;simpa using this
   have q:=(zn.1 l).1;have r:=zi n;have b:=zao 10 a;rw[e]at b;have m:c.2.1.length<a.length:=by
    by_cases m:c.2.2=true
    ·rw[z8 m]at b;omega
    ·have:=zb0 (c:=10) (l:=a) (by rw[e];simpa using m);rw[e]at this;rw[this];exact Zq.2 g
   rw[zfL om]at l;clear d e n j i b;refine jt (t.out k _ _ _ l (u _ _ _ _ o (zw.of_below v))) ?_ ?_
   ·rintro d ⟨_,b,a,_⟩;gi_wp2;go_roundw
    case rel=>exact⟨f,k+1,b,c.2.1,rfl,sp,om,om,om,w,r,a⟩
    case measure=>simp[zeL,ByteArray.size];omega
   ·intro d a;gi_wp2;refine zH (qY rfl _ _ _) rfl ?_;exact⟨⟨_,rfl⟩,.inr ⟨k,q,a.2⟩⟩
def bval:Value->Nat|G true=>1|_=>0
theorem zny (l:List UInt8):(ByteArray.mk l.toArray).size=l.length:=by simp[ByteArray.size]
def zeu (x:List UInt8):Array Value:=#[gS ⟨x.toArray⟩]
theorem zh8 (s:List UInt8)(hs:s.length<=1000000000)(a:Nat):
 SeqL pg 370 #[pn (E ⟨a,0,O⟩)] ((qg s).map zeu) (fun W=>W.cell? ⟨a,0,O⟩=E (gS ⟨s.toArray⟩)):=by
 obtain⟨b,hvs⟩:∃b,(qg s).map zeu=b:=⟨_,rfl⟩;rw[hvs];have p:=zi hvs;clear hvs;intro j J a a W m c d c e;have f:=(d 0 a W e).1;have r:=zi c;clear c;have d:Hid (∃c,Lib.cut s [32]=c):=⟨_,rfl⟩;obtain⟨n,f⟩:=d.out;have i:=zi f;clear f d;refine zcE func370 ntmps370 (h:=?_);gi_wp2;refine⟨trivial,rfl,(zS.2 (zh7 _ _ (by simp[ByteArray.size];omega))).mono ?_⟩;simp only[];rw[i.out];rintro t w ⟨rfl,q,rfl⟩;gi_wp2;have o:=m _ _ _ _ e (zw.drewN _ _ q);gi_loopw [3,4,5] (fun l e c wr=>∃(f k:Nat) (M:Nat->Prop) (g:List UInt8) (d:List UInt8×List UInt8×Bool),l=gS ⟨d.1.toArray⟩/\e=gS ⟨d.2.1.toArray⟩/\c=G d.2.2/\Hid (Lib.cut g [32]=d)/\g.length<=f/\g.length<=1000000000/\Hid (b.drop k=(Jh (f+1) g).map zeu)/\J k M wr)
  (fun _ e c _=>zeL e+bval c)
 case atStart=>exact⟨s.length,0,a,s,n,rfl,rfl,rfl,i,zh _,hs,p.out.symm,o⟩
 case round=>
  obtain⟨f,k,M,g,d,rfl,rfl,rfl,e,_,_,l,u⟩:=hrel;have a:=l.out;have i:=e.out;rw[Jh,i,ZF]at a;have p:b[k]? =E (zeu d.1):=by
   have:=Zt (fun j=>j[0]?) a;simpa using this
  have n:b.drop (k+1)=(if d.2.2=true then Jh f d.2.1 else []).map zeu:=by
   have:=Zt List.tail a;simpa using this
  have v:=(zn.1 p).1;have j:=zi n;have o:=zao 32 g;rw[i]at o;clear a i n l e;gi_wp2;refine jt (r.out k _ _ _ p u) ?_ ?_
  ·rintro p ⟨_,l,i,_⟩;by_cases g:d.2.2=true
   ·rw[z8 g]at o;obtain⟨f,rfl⟩:∃n,f=n+1:=⟨f-1,om⟩;have a:=j.out;rw[z8 g]at a;have n:=zi a;clear a j;obtain⟨c,hcut⟩:∃c,Lib.cut d.2.1 [32]=c:=⟨_,rfl⟩;have e:=zi hcut;clear hcut;gi_wp2;refine⟨trivial,rfl,(zS.2 (zh7 _ _ (by simp[ByteArray.size];omega))).mono ?_⟩;simp only[];rw[e.out];rintro t w ⟨rfl,q,rfl⟩;gi_wp2;go_roundw
    case rel=>exact⟨f,k+1,l,d.2.1,c,rfl,rfl,rfl,e,om,om,n,m _ _ _ _ i (zw.drewN _ _ q)⟩
    case measure=>
     have:=zao 32 d.2.1;rw[e.out]at this;have e:bval (G c.2.2)=if c.2.2=true then 1 else 0:=by cases c.2.2<;>rfl
     have c:bval (G d.2.2)=1:=by rw[g];rfl
     simp[zeL,e,c,zny];omega
   ·have c:d.2.2=false:=by simpa using g
    gi_wp2;go_end0
    have a:=j.out;rw[zW g]at a;have c:=zcW.1 (by simpa using a);have a:k+1=b.length:=om;exact⟨⟨_,rfl⟩,.inl ⟨l,a▸i⟩⟩
  ·intro p i;gi_wp2;go_end0
   exact⟨⟨_,rfl⟩,.inr ⟨k,v,i.2⟩⟩
theorem zkY (s:ByteArray)(w:H):
 Calls pg 147 #[gS s] w fun e w'=>e= .returned (.func (.func 237) #[] #[pn (E ⟨w.heap.size,0,O⟩)])/\w'=w.alloc (cl #[gS s] 9):=by
 go_enter func147,ntmps147
 have a:=JN;go_wp2;go_ret;exact⟨rfl,rfl⟩
theorem zjj (s:ByteArray)(w:H):
 Calls pg 331 #[gS s] w fun e w'=>e= .returned (.func (.func 370) #[] #[pn (E ⟨w.heap.size,0,O⟩)])/\w'=w.alloc (cl #[gS s] 9):=by
 go_enter func331,ntmps331
 have a:=JN;go_wp2;go_ret;exact⟨rfl,rfl⟩
end Go.Proofs.YtnhfdcfnojnofaaGreatDoor
namespace Go.Proofs.YtnhfdcfnojnofaaGreatDoor.T
open Go.RowKit
theorem zl9 (c w:H)(b:Nat)(v:Value)(a:List ByteArray)(j i g f:Value)(h:RQ c w b 0 [] [] [] [] j i g f)(d:Sv w v a)(k:a.length<=1000000)(m:∀l∈a,l.size<=1000000000):
 Calls pg 112 #[pn (E ⟨b,0,O⟩),it .i64 0,v] w fun e w'=>e= .returned (G (decide (0<zbC (a.map fun l=>l.data.toList))))/\RQ c w' b (zbC (a.map fun l=>l.data.toList)) [] [] [] [] j i g f:=by
 obtain⟨_,_,_,_,_,_,_,_,_,_⟩:=h.box;have g:=d;obtain⟨c,f,rfl⟩:=d.shape;have b:=zi (fun W (d:Sv W (V c a.length f) a)=>znu W _ a d k m);obtain⟨N,c⟩:∃N,zbC (a.map fun l=>l.data.toList)=N:=⟨_,rfl⟩;rw[c]at b⊢;have a:=h.setN N;go_enter func112,ntmps112
 go_wp2_with fail
 refine(b.out _ g).mono ?_;rintro e w' ⟨rfl,rfl⟩;go_wp2;go_ret;exact⟨jH sp,a⟩
theorem Sv.part {w:H}{g d cap l:Nat}{a:List ByteArray}(h:Sv w (V (E ⟨g,d,O⟩) l cap) a)(i n c:Nat)(e:i+n<=a.length)(j:n<=c)(b:0<n->True):Sv w (V (E ⟨g,d+i,O⟩) n c) ((a.drop i).take n):=by
 rcases h with ⟨h,rfl⟩|⟨_,_,_,b,_,e,f⟩
 ·simp at h
 ·simp only[zV,z7,je]at b;obtain⟨⟨rfl,rfl,_⟩,_,_⟩:=b;have b:((a.drop i).take n).length=n:=so;refine Or.inr ⟨g,d+i,c,by rw[b],by rw[b];exact j,e,fun j a=>?_⟩;rw[b]at a;have:=f (i+j) om;rw[zaz,this];congr 2
  simp[zk,JL,a]
theorem Sv.tail1 {w:H}{g b cap l:Nat}{a:List ByteArray}(h:Sv w (V (E ⟨g,b,O⟩) l cap) a)(n:Nat)(e:1+n<=a.length):
 (cap≠1->Sv w (V (E ⟨g,b+1,O⟩) n (cap-1)) ((a.drop 1).take n))/\(cap=1->n=0/\Sv w (V (E ⟨g,b,O⟩) 0 0) ((a.drop 1).take n)):=by
 have c:=h;rcases h with ⟨h,rfl⟩|⟨_,_,_,a,_,d,_⟩
 ·simp at h
 ·simp only[zV,z7,je]at a;obtain⟨⟨rfl,rfl,_⟩,_,rfl⟩:=a;refine⟨fun _=>c.part 1 n (cap-1) e om (fun _=>trivial),fun a=>?_⟩;have a:n=0:=om;subst a;exact⟨rfl,Or.inr ⟨g,b,0,sp,sp,d,fun i a=>by simp at a⟩⟩
theorem Qj.shape {w:H}{v:Value}{zs:List (Int×Nat)}(h:Qj w v zs):∃a cap,v=V a zs.length cap:=by
 obtain⟨_,a,_,b⟩:=h;rcases b with ⟨rfl,rfl⟩|⟨_,_,cap,rfl,_⟩
 ·exact⟨O,0,by rw[<-a];rfl⟩
 ·exact⟨_,_,by rw[a]⟩
theorem znz (X w:H)(b n:Nat)(v:Value)(a:List ByteArray)(mx lo hi:List Int)(rows:List (List Int×List UInt8×Int))(vM vL vH vC:Value)(h:RQ X w b n mx lo hi rows vM vL vH vC)(L:Sv w v a)(ah:∀k,v.ownBlock=E k->k≠b)(Q:0<a.length)(hn:a.length<=1000000)(aa:∀l∈a,l.size<=1000000000)(ap:0<n/\n<=4):
 Calls pg 112 #[pn (E ⟨b,0,O⟩),it .i64 1,v] w fun e w'=>e= .returned (G (decide (a.length=n+1/\(a.getD 0 ⟨#[]⟩).data.toList=zbv/\(a.drop 1).all (fun l=>wOk l.data.toList)=true)))/\Wr (fun k=>k=b) X w'/\
  ((a.drop 1).all (fun l=>wOk l.data.toList)=true->∃v',RQ X w' b n ((a.drop 1).map fun l=>wZ l.data.toList) lo hi rows v' vL vH vC):=by
 obtain⟨_,_,_,_,_,_,_,_,_,_⟩:=h.box;have ab:=L;obtain⟨_,a6,rfl⟩:=L.shape;obtain⟨s,I,rfl,hg,a9⟩:=L.row (by intro e;rw[e]at Q;simp at Q);have J:=a9 0 Q;rw[qy]at J;have a2:=ah s rfl;have ad:a.length<=a6:=by
  rcases L with ⟨e,_⟩|⟨_,_,_,e,Y,_⟩
  ·simp at e
  ·simp only[zV]at e;omega
 obtain⟨R,S⟩:=ab.tail1 (a.length-1) om;have hd:(a.drop 1).take (a.length-1)=a.drop 1:=zy sp;rw[hd]at R S;have a1:(a.drop 1).length=a.length-1:=sp;have C:=zi (fun(a5:H) (T:Value) (y:Sv a5 T (a.drop 1))=>zbf a5 T (a.drop 1) y (fun l hl=>aa l (QO hl)) om);obtain⟨m,hs0⟩:∃m,a.getD 0 ⟨#[]⟩=m:=⟨_,rfl⟩;rw[hs0]at J⊢;obtain⟨F,u⟩:∃F,((a.drop 1).all fun l=>wOk l.data.toList)=F:=⟨_,rfl⟩;rw[u]at C⊢;obtain⟨q,hm⟩:∃q,a.length=q+1:=⟨a.length-1,om⟩;have a7:a.length-1=q:=om;rw[a7]at R S a1;have W:=zi a1;have T1:=zi R;have T2:=zi S;clear R S u hd a1 a9 aa L ab a7;rw[hm]at hn ad⊢;clear hm Q;have aq:=h.lt;have ak:=h.gpw;have ai:∀(T:Value),Sv w T (a.drop 1)->True:=fun _ _=>trivial
 clear ai;have an:¬(1+(n:Int)<1):=om;have a3:m.data.toList=zbv↔m.toList= [109,97,120]:=by rw[ZT,zbv]
 simp only[a3];have aj:=zi a3;clear a3;by_cases a0:a6=1
 ·obtain⟨ae,y⟩:=T2.out a0;subst a0;obtain rfl:q=0:=ae;by_cases u:F=true
  ·subst u;have D:=C.out;simp only[zbP]at D;have P:=zi D;clear D C;have a8:¬(0:Nat)=n:=om;have af:¬(0:Int)=(n:Int):=om;by_cases g:m.toList= [109,97,120]
   all_goals
    go_enter func112,ntmps112
    go_wp2_with fail
    refine(P.out w _ y).mono ?_;rintro e o ⟨U,rfl,⟨i,d⟩,_,j⟩;have z:=i.shape;rw[zo,W.out]at z;obtain⟨B,A,rfl⟩:=z;have c:=h.below j;obtain⟨M,k1,k2,k3,k4,e0,e1,Y,e3,e4⟩:=c.box;have K:=(j.cell (p:=⟨s,I,O⟩) hg).trans J;have c2:(o.setCell ⟨b,1,O⟩ (V B 0 A)).cell? ⟨s,I,O⟩=E (gS m):=by rw[far (fun e=>a2 e.symm)];exact K
    have k5:(o.setCell ⟨b,1,O⟩ (V B 0 A)).cell? ⟨b,0,O⟩=E (it .i64 (n:Nat)):=set_other M om;have x:((a.drop 1).map fun l=>(wZ l.data.toList,(1:Nat)))=(((a.drop 1).map fun l=>wZ l.data.toList).map fun N=>(N,(1:Nat))):=by rw[ZV];rfl
    rw[x]at i;have t:=c.setMax i (fun k f=>⟨zL h.wr.size (d k f),fun e=>by have:=(h.lo.lt k e).2;have:=d k f;omega,fun e=>by have:=(h.hi.lt k e).2;have:=d k f;omega,fun e=>by have:=(h.cs.lt k e).2;have:=d k f;omega⟩);have r:=zi t;clear t i x c;go_wp2;go_ret;refine⟨?_,r.out.wr,fun _=>⟨_,r.out⟩⟩;first|(apply jH;simp[g];done)|(apply jH;rw[QD];simp[g];done)|(apply jH;rw[QD];simp[g];omega)|(simp[g];done)
  ·have Z:F=false:=by simpa using u
   subst Z;go_enter func112,ntmps112
   go_wp2_with fail
   refine(C.out w _ y).mono ?_;rintro e o ⟨U,rfl,_,a4,j⟩;obtain rfl:=a4 (by first|exact trivial|rfl);have c:=h.below j;go_wp2;go_ret;exact⟨sp,c.wr,fun e=>by cases e⟩
 ·have y:=T1.out a0;by_cases u:F=true
  ·subst u;have D:=C.out;simp only[zbP]at D;have P:=zi D;clear D C;by_cases a8:q=n
   ·obtain rfl:n=q:=a8.symm;by_cases g:m.toList= [109,97,120]
    all_goals
     go_enter func112,ntmps112
     go_wp2_with fail
     refine(P.out w _ y).mono ?_;rintro e o ⟨U,rfl,⟨i,d⟩,_,j⟩;have z:=i.shape;rw[zo,W.out]at z;obtain⟨B,A,rfl⟩:=z;have c:=h.below j;obtain⟨M,k1,k2,k3,k4,e0,e1,Y,e3,e4⟩:=c.box;have K:=(j.cell (p:=⟨s,I,O⟩) hg).trans J;have c2:(o.setCell ⟨b,1,O⟩ (V B n A)).cell? ⟨s,I,O⟩=E (gS m):=by rw[far (fun e=>a2 e.symm)];exact K
     have k5:(o.setCell ⟨b,1,O⟩ (V B n A)).cell? ⟨b,0,O⟩=E (it .i64 (n:Nat)):=set_other M om;have x:((a.drop 1).map fun l=>(wZ l.data.toList,(1:Nat)))=(((a.drop 1).map fun l=>wZ l.data.toList).map fun N=>(N,(1:Nat))):=by rw[ZV];rfl
     rw[x]at i;have t:=c.setMax i (fun k f=>⟨zL h.wr.size (d k f),fun e=>by have:=(h.lo.lt k e).2;have:=d k f;omega,fun e=>by have:=(h.hi.lt k e).2;have:=d k f;omega,fun e=>by have:=(h.cs.lt k e).2;have:=d k f;omega⟩);have r:=zi t;clear t i x c;go_wp2;go_ret;refine⟨?_,r.out.wr,fun _=>⟨_,r.out⟩⟩;first|(apply jH;simp[g];done)|(apply jH;rw[QD];simp[g];done)|(apply jH;rw[QD];simp[g];omega)|(simp[g];done)
   ·have af:¬(q:Int)=(n:Int):=om;by_cases g:m.toList= [109,97,120]
    all_goals
     go_enter func112,ntmps112
     go_wp2_with fail
     refine(P.out w _ y).mono ?_;rintro e o ⟨U,rfl,⟨i,d⟩,_,j⟩;have z:=i.shape;rw[zo,W.out]at z;obtain⟨B,A,rfl⟩:=z;have c:=h.below j;obtain⟨M,k1,k2,k3,k4,e0,e1,Y,e3,e4⟩:=c.box;have K:=(j.cell (p:=⟨s,I,O⟩) hg).trans J;have c2:(o.setCell ⟨b,1,O⟩ (V B q A)).cell? ⟨s,I,O⟩=E (gS m):=by rw[far (fun e=>a2 e.symm)];exact K
     have k5:(o.setCell ⟨b,1,O⟩ (V B q A)).cell? ⟨b,0,O⟩=E (it .i64 (n:Nat)):=set_other M om;have x:((a.drop 1).map fun l=>(wZ l.data.toList,(1:Nat)))=(((a.drop 1).map fun l=>wZ l.data.toList).map fun N=>(N,(1:Nat))):=by rw[ZV];rfl
     rw[x]at i;have t:=c.setMax i (fun k f=>⟨zL h.wr.size (d k f),fun e=>by have:=(h.lo.lt k e).2;have:=d k f;omega,fun e=>by have:=(h.hi.lt k e).2;have:=d k f;omega,fun e=>by have:=(h.cs.lt k e).2;have:=d k f;omega⟩);have r:=zi t;clear t i x c;go_wp2;go_ret;refine⟨?_,r.out.wr,fun _=>⟨_,r.out⟩⟩;first|(apply jH;simp[g];done)|(apply jH;rw[QD];simp[g];done)|(apply jH;rw[QD];simp[g];omega)|(simp[g];done)
  ·have Z:F=false:=by simpa using u
   subst Z;go_enter func112,ntmps112
   go_wp2_with fail
   refine(C.out w _ y).mono ?_;rintro e o ⟨U,rfl,_,a4,j⟩;obtain rfl:=a4 (by first|exact trivial|rfl);have c:=h.below j;go_wp2;go_ret;exact⟨sp,c.wr,fun e=>by cases e⟩
end Go.Proofs.YtnhfdcfnojnofaaGreatDoor.T
