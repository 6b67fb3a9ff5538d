import Derived.Test.YtnhfdcfnojnofaaGreatDoorAds1Z2
open Option renaming none->O,some->E
open Go.Value renaming slice->V,bool->G,string->gS,tuple->tp,int->it
open Go renaming World->H
open Go.Proofs.Tryz renaming prog->pg
open Go.Proofs.Tryz
set_option linter.unusedSimpArgs false
set_option linter.unusedVariables false
set_option maxHeartbeats 4000000
set_option maxRecDepth 100000
namespace Go.Proofs.YtnhfdcfnojnofaaGreatDoor
open Go.RowKit
theorem JN:∀(a:Fn) (first cap:Array Value)(w:H),(Instr.makeFunc a first cap).run pg w= .ok (.func a first cap) w:=fun _ _ _ _=>rfl
theorem JO {f:FuncId}{a:Func}{c:Code}{args b:Array Value}{w:H}{R:Ending->H->Prop}{k:Nat}(g:Tryz.prog.funcs[f]? =E a)(i:a.ntmps=k)(e:a.body=E c:=by rfl)
 (d:args++Array.replicate (k-args.size) undef=b:=by((try simp only[List.size_toArray,Zo,jL,Nat.reduceAdd,Nat.reduceSub,Array.replicate_succ,Array.replicate_zero,List.push_toArray,List.append_toArray,JV,Q5]);rfl))
 (h:c.wpIn .wide 0 pg (bodyPostM .wide 0 pg a R) { tmps:=b,defers:= [] } w):Calls pg f args w R:=
 (zS (n:=0)).1 (callsIn_of_wp_marks g e trivial (by rw[i,d];exact h) rfl)
theorem zcE {f:FuncId}{a:Func}{c:Code}{args b:Array Value}{w:H}{R:Ending->H->Prop}{k:Nat}(g:Tryz.prog.funcs[f]? =E a)(i:a.ntmps=k)(e:a.body=E c:=by rfl)
 (d:args++Array.replicate (k-args.size) undef=b:=by((try simp only[List.size_toArray,Zo,jL,Nat.reduceAdd,Nat.reduceSub,Array.replicate_succ,Array.replicate_zero,List.push_toArray,List.append_toArray,JV,Q5]);rfl))
 (h:c.wpIn .wide 0 pg (bodyPost pg a R) { tmps:=b,defers:= [] } w):Calls pg f args w R:=
 (zS (n:=0)).1 (callsIn_of_wp g e trivial (by rw[i,d];exact h) rfl)
def zch (c:UInt8):Bool:=decide (48<=c.toNat)&&decide (c.toNat<=57)
def qZ (l:List UInt8):Bool:=l.all zch
def qd (l:List UInt8):Nat:=l.foldl (fun a c=>a*10+(c.toNat-48)) 0
theorem zgj (l:List UInt8)(c:UInt8):qd (l ++ [c])=qd l*10+(c.toNat-48):=by simp[qd,List.foldl_append]
theorem ziT {c:UInt8}(h:zch c=true):48<=c.toNat/\c.toNat<=57:=by
 unfold zch at h;simpa using h
theorem zcF {l:List UInt8}(h:qZ l=true)(i:Nat)(a:i<l.length):48<=l[i].toNat/\l[i].toNat<=57:=by
 unfold qZ at h;rw[qR]at h;exact ziT (h _ (zZ a))
theorem zco (l:List UInt8)(k:Nat)(h:k<l.length):qd (l.take (k+1))=qd (l.take k)*10+(l[k].toNat-48):=by
 rw[Zh h,zgj]
theorem zeJ {l:List UInt8}(h:qZ l=true)(k:Nat)(d:k<=l.length):qd (l.take k)<10^k:=by
 induction k with
 |zero=>simp[qd]
 |succ k a=>
  have b:=a om;have c:=zcF h k om;rw[zco l k om,ZK];generalize 10^k=p at *;omega
theorem zcz {l:List UInt8}(h:qZ l=true):qd l<10^l.length:=by
 have:=zeJ h l.length (zh _);rwa [Zw]at this
theorem zm1 (x:Nat)(b:List UInt8):b.foldl (fun a c=>a*10+(c.toNat-48)) x=x*10^b.length+qd b:=by
 induction b generalizing x with
 |nil=>simp[qd]
 |cons c b d=>
  have e:qd (c::b)=b.foldl (fun a c=>a*10+(c.toNat-48)) (c.toNat-48):=by simp[qd]
  rw[zbx,d,e,d (c.toNat-48),Zo,ZK,ZO,ZD,Qg 10 (10^b.length)];omega
theorem zff (a b:List UInt8):qd (a++b)=qd a*10^b.length+qd b:=by
 have e:qd (a++b)=b.foldl (fun a c=>a*10+(c.toNat-48)) (qd a):=by simp[qd,List.foldl_append]
 rw[e,zm1]
theorem zfg (s:ByteArray)(w:H)(hs:s.size<=1099511627776)(h:qZ s.data.toList=true):
 Calls pg 130 #[gS s] w fun e w'=>e= .returned (G true)/\w'=w:=by
 have a:∀i (b:i<s.size),48<=s[i].toNat/\s[i].toNat<=57:=fun i b=>zcF h i (by simpa using b)
 clear h;go_enter func130,ntmps130
 go_wp2;go_loop [6] (fun i=>∃k:Nat,k<=s.size/\i=it .i64 k) (fun i=>s.size-(intOf i).toNat)
 case atStart=>exact⟨0,qp _,rfl⟩
 case round=>
  obtain⟨k,_,rfl⟩:=hrel;by_cases b:k<s.size
  ·have c:=(a k b).1;have c:=(a k b).2;have a:(48:Int)<=(s[k].toNat:Int):=om;have a:(s[k].toNat:Int)<=57:=om;go_wp2;go_round
   case rel=>exact⟨k+1,om,by go_num⟩
   case measure=>simp[intOf];omega
  ·go_wp2;go_ret;exact⟨rfl,rfl⟩
theorem zlO {l:List UInt8}(h:qZ l=false):∃k,∃c:k<l.length,(l[k].toNat<48\/57<l[k].toNat)/\∀i (b:i<k),48<=(l[i]' om).toNat/\(l[i]' om).toNat<=57:=by
 induction l with
 |nil=>simp[qZ]at h
 |cons d l g=>
  by_cases a:zch d=true
  ·have d:qZ l=false:=by
    unfold qZ at h⊢;rw[zci,a,ZE]at h;exact h
   obtain⟨k,c,e,f⟩:=g d;refine⟨k+1,by simpa using c,by simpa using e,?_⟩;intro i b;cases i with
   |zero=>exact ziT a
   |succ i=>have:=f i om;simpa using this
  ·refine⟨0,sp,?_,fun i b=>om⟩;unfold zch at a;simp at a⊢;omega
theorem zfB (s:ByteArray)(w:H)(hs:s.size<=1099511627776)(h:qZ s.data.toList=false):
 Calls pg 130 #[gS s] w fun e w'=>e= .returned (G false)/\w'=w:=by
 obtain⟨n,a,b,c⟩:=zlO h;have d:n<s.size:=by simpa using a
 have f:s[n].toNat<48\/57<s[n].toNat:=b;have a:∀i (d:i<n),48<=(s[i]' om).toNat/\(s[i]' om).toNat<=57:=fun i d=>c i d
 clear h b c;go_enter func130,ntmps130
 go_wp2;go_loop [6] (fun i=>∃k:Nat,k<=n/\i=it .i64 k) (fun i=>n-(intOf i).toNat)
 case atStart=>exact⟨0,qp _,rfl⟩
 case round=>
  obtain⟨k,_,rfl⟩:=hrel;by_cases b:k<n
  ·have c:k<s.size:=om;have c:=(a k b).1;have c:=(a k b).2;have a:(48:Int)<=(s[k].toNat:Int):=om;have a:(s[k].toNat:Int)<=57:=om;go_wp2;go_round
   case rel=>exact⟨k+1,om,by go_num⟩
   case measure=>simp[intOf];omega
  ·have a:k=n:=om;subst a;rcases f with a|a
   ·have a:(s[k].toNat:Int)<48:=om;go_wp2;go_ret;exact⟨rfl,rfl⟩
   ·have a:57<(s[k].toNat:Int):=om;have a:(48:Int)<=(s[k].toNat:Int):=om;go_wp2;go_ret;exact⟨rfl,rfl⟩
theorem zhY (s:ByteArray)(w:H)(hs:s.size<=9)(h:qZ s.data.toList=true):
 Calls pg 133 #[gS s] w fun e w'=>e= .returned (it .u32 (qd s.data.toList:Nat))/\w'=w:=by
 have b:∀i (a:i<s.size),48<=s[i].toNat/\s[i].toNat<=57:=fun i a=>zcF h i (by simpa using a)
 have d:=fun k a=>zeJ h k (by simpa using a)
 have f:∀k (a:k<s.size),qd (s.data.toList.take (k+1))=qd (s.data.toList.take k)*10+(s[k].toNat-48):=fun k a=>zco _ k (by simpa using a)
 have c:=zi b;have g:=zi d;have j:=zi f;clear h b d f;go_enter func133,ntmps133
 go_wp2;go_loop [3,7] (fun v i=>∃k:Nat,k<=s.size/\i=it .i64 k/\v=it .u32 (qd (s.data.toList.take k):Nat)) (fun _ i=>s.size-(intOf i).toNat)
 case atStart=>exact⟨0,qp _,rfl,rfl⟩
 case round=>
  obtain⟨k,a,rfl,rfl⟩:=hrel;by_cases b:k<s.size
  ·have d:=(c.out k b).1;have d:=(c.out k b).2;have c:(48:Int)<=(s[k].toNat:Int):=om;have c:(s[k].toNat:Int)<=57:=om;have c:=g.out k a;have d:10^k<=10^8:=qz om om;have a:qd (s.data.toList.take k)<100000000:=om;have a:=zi (j.out k b);generalize qd (s.data.toList.take k)=x at *;clear c d;go_wp2;go_round
   case rel=>exact⟨k+1,om,by go_num,by rw[a.out];exact Zt (it .u32) om⟩
   case measure=>simp[intOf];omega
  ·have b:k=s.size:=om;have a:Hid (qd (s.data.toList.take k)=qd s.data.toList):=by rw[Hid,zy so]
   clear b;go_wp2;go_ret;exact⟨QW (by rw[a.out]),rfl⟩
theorem zm2 (ds:List Nat)(i x:Nat):(ds.set i x).map encD=(ds.map encD).set i (encD x):=by rw[List.map_set]
theorem zkK {a ds:List Nat}{k c m:Nat}(b:k<a.length)(d:val (a.take k)+4294967296^k*c=val (ds.take k)*1000000000+m):
 val ((a.set k ((c+ds.getD k 0*1000000000)%4294967296)).take (k+1))+4294967296^(k+1)*((c+ds.getD k 0*1000000000)/4294967296)=val (ds.take (k+1))*1000000000+m:=by
 rw[val_lay a k _ b,val_take_any ds k,qI,ZO,ZD];omega
theorem top_of_ge {ds:List Nat}(c:Dig ds)(h:∀k,ds.length=k+1->4294967296^k<=val ds):Top ds:=by
 intro k d b;have a:=h k d;have e:=jZ ds k om;rw[zy om]at e;rw[e,val_append,b]at a;have b:=val_lt (c.take k);rw[zU,ZL om]at b;simp[val]at a;omega
theorem zm3 {ds:List Nat}{c:Nat}(a:c≠0):Top (ds ++ [c]):=by
 intro k b;have:ds.length=k:=by simpa using b
 subst this;simpa using a
theorem zeK (w:H)(B g cap m:Nat)(ds:List Nat)(d:w.ownsRow B 224 1 (V (E ⟨g,0,O⟩) ds.length cap) ds.length (ds.map encD))(b:B<=w.heap.size)(c:ds.length<=1073741823)(f:m<1000000000)(p:Dig ds)(C:Top ds):
 Calls pg 132 #[V (E ⟨g,0,O⟩) ds.length cap,it .u32 (m:Nat)] w fun e w'=>
  ∃l j a,e= .returned (V (E ⟨l,0,O⟩) a.length j)/\w'.ownsRow B 224 1 (V (E ⟨l,0,O⟩) a.length j) a.length (a.map encD)/\Dig a/\val a=val ds*1000000000+m/\a.length<=ds.length+1/\Below B w w'/\Top a:=by
 have A:=(zbb d).1;obtain⟨D,u,v,y,z⟩:=qL Tryz.info131;go_enter func132,ntmps132
 go_wp2;go_loopw [5,11] (fun f b wr=>∃(k c:Nat) (a:List Nat),k<=ds.length/\c<4294967296/\b=it .i64 (k:Nat)/\f=it .u64 (c:Nat)/\Hid (a.length=ds.length)/\Dig a/\wr.ownsRow B 224 1 (V (E ⟨g,0,O⟩) ds.length cap) ds.length (a.map encD)/\Below B w wr/\
  Hid (a.drop k=ds.drop k)/\Hid (val (a.take k)+4294967296^k*c=val (ds.take k)*1000000000+m)) (fun _ b _=>ds.length-(intOf b).toNat)
 case atStart=>exact⟨0,m,ds,qp _,om,rfl,rfl,rfl,p,d,zR _ _,rfl,by simp[Hid,val]⟩
 case round=>
  obtain⟨k,c,a,_,_,rfl,rfl,b,o,d,n,q,h⟩:=hrel;by_cases f:k<ds.length
  ·have i:k<a.length:=by rw[b.out];exact f
   have f:=row_of_owns d b.out k i;rw[zaZ q.out,qi]at f;have f:=p.get k;have f:=d.frozenAt k;have f:=(d.stored k (encD ((c+ds.getD k 0*1000000000)%4294967296))).1;rw[<-zm2]at f;have t:=zi (zkK (m:=m) i h.out);generalize ds.getD k 0=x at *;have i:encD ((c+x*1000000000)%4294967296)=it .u32 (((c:Int)+x*1000000000)%4294967296):=by unfold encD;exact Zt _ om
   rw[i]at f;have r:=zi (show(((c+x*1000000000)/4294967296:Nat):Int)=((c:Int)+x*1000000000)/4294967296 by omega);have s:=zi (show(c+x*1000000000)/4294967296<4294967296 by omega);clear h i u v y z;go_wp2;go_roundw
   case rel=>exact⟨k+1,(c+x*1000000000)/4294967296,_,om,s.out,by go_num,by rw[r.out],by rw[Hid,Zf,b.out],o.set _ _ (Qx _ dc),f,n.setCell (by exact A) _,by rw[Hid,QN];exact zad q.out,t.out⟩
   case measure=>simp[intOf];omega
  ·have q:k=ds.length:=om;have f:=h.out;rw[q,zy (by rw[b.out];omega),zy (zh ds.length)]at f;by_cases s:c=0
   ·subst s;have i:=zi f;clear h f q;have t:Top a:=by
     refine top_of_ge o (fun A x=>?_);have r:=C.le A (by rw[<-b.out];exact x);have x:=i.out;omega
    have x:=zi t;clear t;go_wp2;go_ret;have t:=b.out;rw[<-t]at d;exact⟨g,cap,a,zel t.symm,d,o,by have:=i.out;omega,om,n,x.out⟩
   ·have t:0<(c:Int):=om;have i:=zi f;have t:=n.size;clear h f q;go_wp2_with (at_builtin;refine qQ _ rfl _ _ 99 rfl B 224 D (it .u32 0) 1 4 underlying99 u v y z rfl dc (V (E ⟨g,0,O⟩) ds.length cap) ds.length (a.map encD) rfl (d.alloc _) ⟨wr.heap.size,0,O⟩ 1 1 [encD c] rfl rfl ?c1 ?c2 mo om so ?_)
    case c1=>exact Z4 _ _ _
    case c2=>intro u f;simp at f;subst f;rfl
    intro t v f h q;have u:t≠V O 0 0:=fun e=>q e
    have t:a.map encD ++ [encD c]=(a ++ [c]).map encD:=sp;rw[t]at f;obtain⟨l,j,t,_,_,_,_,_⟩:=owns_parts f u;subst t;have t:=(n.alloc om _).grown h so (fun k k=>by simp[Value.ownBlock]at k;omega);have k:(a ++ [c]).length=ds.length+1:=by have:=b.out;simp;omega
    clear h q d;go_wp2;go_ret;rw[<-k]at f;refine⟨l,j,a ++ [c],zel k.symm,f,o.append (by intro d p;simp at p;omega),?_,om,t,zm3 s⟩;have r:=i.out;have a:=b.out;rw[val_append,a];simp[val];exact r
def zeL:Value->Nat|gS s=>s.size|_=>0
theorem zdP {l m:List UInt8}(h:qZ l=true)(hs:∀c∈m,c∈l):qZ m=true:=by
 unfold qZ at *;rw[qR]at *;exact fun c a=>h c (hs c a)
theorem zgk (l:List UInt8):qd (Lib.trimLeftB l 48)=qd l:=by
 unfold Lib.trimLeftB;induction l with
 |nil=>rfl
 |cons c l b=>
  by_cases a:c=48
  ·subst a;have e:qd (48::l)=qd l:=by simp[qd]
   rw[e,List.dropWhile_cons_of_pos sp];exact b
  ·rw[List.dropWhile_cons_of_neg (by simpa using a)]
theorem zfh (l:List UInt8)(c:UInt8):(Lib.trimLeftB l c).length<=l.length:=by
 unfold Lib.trimLeftB;exact(zb8 _).length_le
theorem zfC {L:List UInt8}{k n:Nat}(h:k=0\/n=9)(a:k+n<=L.length):qd (L.take (k+n))=qd (L.take k)*1000000000+qd ((L.drop k).take n):=by
 rw[List.take_add,zff];rcases h with h|h
 ·subst h;simp[qd]
 ·subst h;have:((L.drop k).take 9).length=9:=by rw[zU,qu];omega
  rw[this]
theorem zjS (s:ByteArray)(m:Nat)(w:H)(g:m<=1099511627776)(hs:s.size<=1099511627776)(h:s.data.toList= []\/m<s.size\/qZ s.data.toList=false):
 Calls pg 76 #[gS s,it .i64 (m:Nat)] w fun e w'=>e= .returned (tp #[V O 0 0,G false])/\w'=w:=by
 by_cases a:s.size=0
 ·have b:((s.size:Int) == 0)=true:=by rw[a];rfl
  clear h;go_enter func76,ntmps76
  go_wp2;go_ret2;exact⟨rfl,rfl⟩
 ·have b:((s.size:Int) == 0)=false:=qO.2 om;by_cases c:m<s.size
  ·have d:(m:Int)<(s.size:Int):=om;clear h;go_enter func76,ntmps76
   go_wp2;go_ret2;exact⟨rfl,rfl⟩
  ·have d:¬(m:Int)<(s.size:Int):=om;have f:qZ s.data.toList=false:=by
    rcases h with h|h|h
    ·exact absurd (by rw[JD,h];rfl) a
    ·exact absurd h c
    ·exact h
   clear h;go_enter func76,ntmps76
   go_wp2_with fail
   refine(zfB s _ hs f).mono ?_;rintro e w' ⟨rfl,rfl⟩;go_wp2;go_ret2;exact⟨rfl,rfl⟩
theorem ziU (s:ByteArray)(m:Nat)(w:H)(a:m<=1000000000)(b:0<s.size)(hs:s.size<=m)(h:qZ s.data.toList=true):
 Calls pg 76 #[gS s,it .i64 (m:Nat)] w fun e w'=>∃v,e= .returned (tp #[v,G true])/\NatV w' v (qd s.data.toList)/\Below w.heap.size w w':=by
 have c:((s.size:Int) == 0)=false:=qO.2 om;have d:¬(m:Int)<(s.size:Int):=om;have a:(Lib.trimLeftB s.data.toList 48).length<=s.size:=by rw[JD s];exact zfh _ _
 have u:qZ (Lib.trimLeftB s.data.toList 48)=true:=zdP h (fun r n=>(zb8 _).subset n);have J:=zi (zgk s.data.toList);obtain⟨f,g,i,l,o⟩:=qL Tryz.info131;go_enter func76,ntmps76
 go_wp2_with fail
 refine(zfg s _ om h).mono ?_;rintro e w' ⟨rfl,rfl⟩;clear h;go_wp2_with fail
 refine(Tryz.strings_TrimLeft_one s 48 dc _).mono ?_;rintro e b ⟨rfl,rfl⟩;generalize Lib.trimLeftB s.data.toList 48=L at *;have a:(ByteArray.mk L.toArray).size=L.length:=by simp[ByteArray.size]
 clear c d;go_wp2_with (at_make;refine wpList_make_own _ rfl _ _ 99 rfl b.heap.size 224 f (it .u32 0) 1 underlying99 g i l _ _ _ (L.length/9+1) rfl rfl ?c0 (by rw[o];omega) mo (zh _) ?_)
 case c0=>rw[<-a];omega
 intro j d f;have p:=(zR _ _).grown f (zh _) (fun k h=>by simp at h);have j:=zi a;clear f g i l o a;go_wp2;go_loopw [0,6] (fun g l wr=>∃(t:ByteArray) (k i f:Nat) (a:List Nat),g=gS t/\l=V (E ⟨i,0,O⟩) a.length f/\k<=L.length/\t.size<=1000000000/\Hid (t.data.toList=L.drop k)/\Hid (t.size=L.length-k)/\Hid (k=0\/(L.length-k)%9=0)/\
  wr.ownsRow b.heap.size 224 1 (V (E ⟨i,0,O⟩) a.length f) a.length (a.map encD)/\Dig a/\Top a/\Hid (val a=qd (L.take k))/\a.length<=k/\Below b.heap.size b wr) (fun g _ _=>zeL g)
 case atStart=>
  refine⟨_,0,b.heap.size,L.length/9+1,[],rfl,rfl,qp _,by rw[j.out];omega,by simp[Hid],by rw[Hid,j.out,jO],Or.inl rfl,d,?_,Top.nil,by simp[Hid,val,qd],zh _,p⟩;intro g j;simp at j
 case round=>
  obtain⟨t,k,i,f,a,rfl,rfl,_,_,y,g,z,d,j,A,B,_,o⟩:=hrel;by_cases l:0<t.size
  ·have l:(t.size-1)%9+1<=t.size:=by have:=Nat.mod_le (t.size-1) 9;omega
   have l:(t.extract 0 ((t.size-1)%9+1)).data.toList=(L.drop k).take ((t.size-1)%9+1):=by rw[QP,Zd,jO,y.out]
   have q:(t.extract 0 ((t.size-1)%9+1)).size<=9:=by
    rw[JD,l,zU];omega
   have p:qZ (t.extract 0 ((t.size-1)%9+1)).data.toList=true:=by
    rw[l];exact zdP u (fun r n=>QO (Zv n))
   have M:=zcz p;have x:qd (t.extract 0 ((t.size-1)%9+1)).data.toList<1000000000:=by
    have c:(t.extract 0 ((t.size-1)%9+1)).data.toList.length<=9:=by rw[<-JD];exact q
    have n:10^(t.extract 0 ((t.size-1)%9+1)).data.toList.length<=10^9:=qz om c;omega
   have n:k+((t.size-1)%9+1)<=L.length:=by have:=g.out;omega
   have u:k=0\/(t.size-1)%9+1=9:=by
    have c:=g.out;rcases z.out with h|h
    ·exact Or.inl h
    ·right;omega
   have C:=zi (zfC (L:=L) u n);have D:=zi l;have r:(t.extract ((t.size-1)%9+1) t.size).data.toList=L.drop (k+((t.size-1)%9+1)):=by
    rw[jC,y.out,j7]
   have F:=zi r;have y:(L.length-(k+((t.size-1)%9+1)))%9=0:=by have:=g.out;omega
   have I:=zi y;have z:(t.extract ((t.size-1)%9+1) t.size).size=L.length-(k+((t.size-1)%9+1)):=by rw[JD,r,qu]
   have n:=zi z;have K:=o.size;clear l M r y z u;go_wp2_with fail
   refine(zhY _ _ q p).mono ?_;rintro e l ⟨rfl,rfl⟩;clear q p;have l:(t.extract 0 ((t.size-1)%9+1)).data.toList=t.data.toList.take ((t.size-1)%9+1):=by rw[QP,Zd,jO]
   rw[l]at x;have p:=zi (Zt qd (l.symm.trans D.out));clear l;go_wp2_with fail
   refine(zeK _ b.heap.size i f _ a d K om x j A).mono ?_;rintro e b ⟨l,b,i,rfl,u,r,y,_,q,x⟩;go_wp2;go_roundw
   case rel=>exact⟨_,k+((t.size-1)%9+1),l,b,i,rfl,rfl,om,by rw[n.out];omega,F,n,Or.inr I.out,u,r,x,by rw[Hid,y,p.out,C.out,B.out],om,o.trans q⟩
   case measure=>show(t.extract _ _).size<t.size;rw[n.out];have:=g.out;omega
  ·have b:k=L.length:=by have:=g.out;omega
   have g:val a=qd s.data.toList:=by rw[B.out,b,Zw,J.out]
   have i:=zi g;have l:=(zbb d).2;have p:=row_of_owns d rfl;have k:a.length<=f:=by
    obtain⟨_,c|⟨_,_,_,f,_,_,n,_⟩⟩:=d;·exact absurd c.1 sp
    ·simp only[zV]at f;obtain⟨_,_,rfl⟩:=f;exact n
   clear b g;go_wp2;go_ret2;refine⟨_,rfl,?_,o⟩;rw[<-i.out];exact⟨a,U32s.mk p l k,j,A,rfl⟩
def pval:List Nat->Nat
 |[]=>0
 |d::ds=>d+1000000000*pval ds
end Go.Proofs.YtnhfdcfnojnofaaGreatDoor
namespace Go.Proofs.YtnhfdcfnojnofaaGreatDoor.T
open Go.RowKit
theorem zfD {ds:List Nat}(a:Top ds){k:Nat}(h:k<ds.length):10000^k<=val ds:=by
 obtain⟨j,hj⟩:∃j,ds.length=j+1:=⟨ds.length-1,om⟩;exact zL (pow_mono om) (top_le a j hj)
theorem plus_any (w:H)(u v:Value)(m n K:Nat)(i:NV w u m)(f:NV w v n)(a:m<10000^K)(c:n<10000^K)(b:K<=1000000000):
 Calls pg 185 #[u,v] w fun e w'=>∃x,e= .returned x/\NV w' x (m+n)/\Below w.heap.size w w':=by
 obtain⟨d,hs,hd,g,rfl⟩:=i;obtain⟨b,a9,ad,k,rfl⟩:=f;have f:=zaC g a;have f:=zaC k c;obtain⟨_,_,rfl,_⟩:=hs.shape;obtain⟨_,_,rfl,_⟩:=a9.shape;obtain⟨i0,hi,a1,a2,a3⟩:=qL Tryz.infoInt;obtain⟨L,_,_,_,_⟩:∃L,d.length<=L/\b.length<=L/\L<=K/\(L<=d.length\/L<=b.length):=⟨max d.length b.length,om,om,om,om⟩;clear a c;go_enter func185,ntmps185
 go_wp2;go_loopw [5,6,7] (fun j h f wr=>∃(c:Nat) (a:List Nat) (B:Option Addr) (R:Nat),j=V B a.length R/\h=it .i64 (c:Nat)/\f=it .i64 (a.length:Nat)/\c<=1/\a.length<=L+1/\(L<a.length->c=0)/\
  wr.ownsRow w.heap.size 3 1 (V B a.length R) a.length (a.map encD)/\Dig a/\Hid (val a+10000^a.length*c=val (d.take a.length)+val (b.take a.length))/\Hid (∀j,a.length=j+1->10000^j<=val d+val b)/\Below w.heap.size w wr) (fun _ _ f _=>((L:Int)+2-intOf f).toNat)
 case atStart=>exact⟨0,[],O,0,rfl,rfl,rfl,om,sp,fun _=>rfl,Ze _ _ _ _,fun f hd=>by simp at hd,by simp[Hid,val],fun j Y=>by simp at Y,zR _ _⟩
 case round=>
  obtain⟨c,a,B,R,rfl,rfl,rfl,_,_,Z,o,U,l,a0,h⟩:=hrel;have T:=zi g;have W:=zi k;by_cases q:a.length<d.length
  ·by_cases r:a.length<b.length
   ·obtain⟨a4,aa,rfl,hb,a7⟩:=hs.row (by intro e;rw[e]at q;simp at q);have ae:=(h.cell (p:=⟨a4,aa+a.length,O⟩) hb).trans (a7 a.length q);have ah:=hd.get a.length;obtain⟨b',ab,rfl,a5,a8⟩:=a9.row (by intro e;rw[e]at r;simp at r);have af:=(h.cell (p:=⟨b',ab+a.length,O⟩) a5).trans (a8 a.length r);have ai:=ad.get a.length;have z:Hid (∀j,a.length+1=j+1->10000^j<=val d+val b):=by
     rw[Hid];intro j Y;obtain rfl:a.length=j:=om;exact zL (zfD T.out q) (Nat.le_add_right _ _)
    obtain⟨C,hC⟩:∃C,C=c+d.getD a.length 0+b.getD a.length 0:=⟨_,rfl⟩;have A:=zi (zen rfl l.out hC);generalize d.getD a.length 0=x at *;generalize b.getD a.length 0=y at *;have f:(((c:Int)+(x:Int))+(y:Int))=(C:Int):=om;have t:Hid ((((c:Int)+(x:Int))+(y:Int))%10000=((C%10000:Nat):Int)):=by rw[Hid,f];rfl
    have s:Hid ((((c:Int)+(x:Int))+(y:Int))/10000=((C/10000:Nat):Int)):=by rw[Hid,f];rfl
    have P:C/10000<=1:=om;have Q:C%10000<10000:=om;have a6:a.length<=L:=om;clear hC f l a0 Z T W;go_wp2_with (at_builtin;refine qQ _ rfl _ _ 35 rfl w.heap.size 3 i0 (it .i64 0) 1 8 underlying35 hi a1 a2 a3 rfl dc (V B a.length R) a.length (a.map encD) rfl (o.alloc _) ⟨wr.heap.size,0,O⟩ 1 1 [it .i64 ((((c:Int)+(x:Int))+(y:Int))%10000)] rfl rfl ?c1 ?c2 mo om (by have:=h.size;simp;omega) ?_)
    case c1=>exact Z4 _ _ _
    case c2=>intro u i;simp at i;subst i;rfl
    intro v3 w3 M I J;obtain⟨S,k,g,D,g3,rfl,N,F⟩:=Jf o h M I J t.out;go_wp2;go_roundw
    case rel=>
     refine⟨C/10000,S,_,D,rfl,by rw[s.out],by rw[g];simp,P,om,by intro X;omega,N,by rw[k];exact zak U Q,?_,?_,F⟩;·rw[Hid,g,k];exact A.out
     ·rw[g];exact z
    case measure=>simp[intOf];omega
   ·obtain⟨a4,aa,rfl,hb,a7⟩:=hs.row (by intro e;rw[e]at q;simp at q);have ae:=(h.cell (p:=⟨a4,aa+a.length,O⟩) hb).trans (a7 a.length q);have ah:=hd.get a.length;have z:Hid (∀j,a.length+1=j+1->10000^j<=val d+val b):=by
     rw[Hid];intro j Y;obtain rfl:a.length=j:=om;exact zL (zfD T.out q) (Nat.le_add_right _ _)
    obtain⟨C,hC⟩:∃C,C=c+d.getD a.length 0+b.getD a.length 0:=⟨_,rfl⟩;have A:=zi (zen rfl l.out hC);rw[za9 b _ om]at hC;generalize d.getD a.length 0=x at *;have f:((c:Int)+(x:Int))=(C:Int):=om;have t:Hid (((c:Int)+(x:Int))%10000=((C%10000:Nat):Int)):=by rw[Hid,f];rfl
    have s:Hid (((c:Int)+(x:Int))/10000=((C/10000:Nat):Int)):=by rw[Hid,f];rfl
    have P:C/10000<=1:=om;have Q:C%10000<10000:=om;have a6:a.length<=L:=om;clear hC f l a0 Z T W;go_wp2_with (at_builtin;refine qQ _ rfl _ _ 35 rfl w.heap.size 3 i0 (it .i64 0) 1 8 underlying35 hi a1 a2 a3 rfl dc (V B a.length R) a.length (a.map encD) rfl (o.alloc _) ⟨wr.heap.size,0,O⟩ 1 1 [it .i64 (((c:Int)+(x:Int))%10000)] rfl rfl ?c1 ?c2 mo om (by have:=h.size;simp;omega) ?_)
    case c1=>exact Z4 _ _ _
    case c2=>intro u i;simp at i;subst i;rfl
    intro v3 w3 M I J;obtain⟨S,k,g,D,g3,rfl,N,F⟩:=Jf o h M I J t.out;go_wp2;go_roundw
    case rel=>
     refine⟨C/10000,S,_,D,rfl,by rw[s.out],by rw[g];simp,P,om,by intro X;omega,N,by rw[k];exact zak U Q,?_,?_,F⟩;·rw[Hid,g,k];exact A.out
     ·rw[g];exact z
    case measure=>simp[intOf];omega
  ·by_cases r:a.length<b.length
   ·obtain⟨b',ab,rfl,a5,a8⟩:=a9.row (by intro e;rw[e]at r;simp at r);have af:=(h.cell (p:=⟨b',ab+a.length,O⟩) a5).trans (a8 a.length r);have ai:=ad.get a.length;have z:Hid (∀j,a.length+1=j+1->10000^j<=val d+val b):=by
     rw[Hid];intro j Y;obtain rfl:a.length=j:=om;exact zL (zfD W.out r) (Nat.le_add_left _ _)
    obtain⟨C,hC⟩:∃C,C=c+d.getD a.length 0+b.getD a.length 0:=⟨_,rfl⟩;have A:=zi (zen rfl l.out hC);rw[za9 d _ om]at hC;generalize b.getD a.length 0=y at *;have f:((c:Int)+(y:Int))=(C:Int):=om;have t:Hid (((c:Int)+(y:Int))%10000=((C%10000:Nat):Int)):=by rw[Hid,f];rfl
    have s:Hid (((c:Int)+(y:Int))/10000=((C/10000:Nat):Int)):=by rw[Hid,f];rfl
    have P:C/10000<=1:=om;have Q:C%10000<10000:=om;have a6:a.length<=L:=om;clear hC f l a0 Z T W;go_wp2_with (at_builtin;refine qQ _ rfl _ _ 35 rfl w.heap.size 3 i0 (it .i64 0) 1 8 underlying35 hi a1 a2 a3 rfl dc (V B a.length R) a.length (a.map encD) rfl (o.alloc _) ⟨wr.heap.size,0,O⟩ 1 1 [it .i64 (((c:Int)+(y:Int))%10000)] rfl rfl ?c1 ?c2 mo om (by have:=h.size;simp;omega) ?_)
    case c1=>exact Z4 _ _ _
    case c2=>intro u i;simp at i;subst i;rfl
    intro v3 w3 M I J;obtain⟨S,k,g,D,g3,rfl,N,F⟩:=Jf o h M I J t.out;go_wp2;go_roundw
    case rel=>
     refine⟨C/10000,S,_,D,rfl,by rw[s.out],by rw[g];simp,P,om,by intro X;omega,N,by rw[k];exact zak U Q,?_,?_,F⟩;·rw[Hid,g,k];exact A.out
     ·rw[g];exact z
    case measure=>simp[intOf];omega
   ·by_cases r:c=0
    ·subst r;have y:val a=val d+val b:=by
      have:=l.out;rw[zcm om,zcm om,Z7,qy]at this;exact this
     have q:=zi y;clear y l;go_wp2;go_ret;exact⟨_,rfl,⟨a,JC o,U,top_of_ge U (by rw[q.out];exact a0.out),q.out⟩,h⟩
    ·have z:Hid (∀j,a.length+1=j+1->10000^j<=val d+val b):=by
      rw[Hid];intro j Y;obtain rfl:a.length=j:=om;have j:=l.out;rw[zcm om,zcm om]at j;have j:10000^a.length*1<=10000^a.length*c:=qK _ om;omega
     obtain⟨C,hC⟩:∃C,C=c+d.getD a.length 0+b.getD a.length 0:=⟨_,rfl⟩;have A:=zi (zen rfl l.out hC);rw[za9 d _ om]at hC;rw[za9 b _ om]at hC;have f:(c:Int)=(C:Int):=om;have t:Hid ((c:Int)%10000=((C%10000:Nat):Int)):=by rw[Hid,f];rfl
     have s:Hid ((c:Int)/10000=((C/10000:Nat):Int)):=by rw[Hid,f];rfl
     have P:C/10000<=1:=om;have Q:C%10000<10000:=om;have b:C/10000=0:=om;have a6:a.length<=L:=by
      by_cases X:L<a.length
      ·exact absurd (Z X) r
      ·omega
     have b:(0:Int)<(c:Int):=om;clear hC f l a0 Z T W;go_wp2_with (at_builtin;refine qQ _ rfl _ _ 35 rfl w.heap.size 3 i0 (it .i64 0) 1 8 underlying35 hi a1 a2 a3 rfl dc (V B a.length R) a.length (a.map encD) rfl (o.alloc _) ⟨wr.heap.size,0,O⟩ 1 1 [it .i64 ((c:Int)%10000)] rfl rfl ?c1 ?c2 mo om (by have:=h.size;simp;omega) ?_)
     case c1=>exact Z4 _ _ _
     case c2=>intro u i;simp at i;subst i;rfl
     intro v3 w3 M I J;obtain⟨S,k,g,D,g3,rfl,N,F⟩:=Jf o h M I J t.out;go_wp2;go_roundw
     case rel=>
      refine⟨C/10000,S,_,D,rfl,by rw[s.out],by rw[g];simp,P,om,by intro X;omega,N,by rw[k];exact zak U Q,?_,?_,F⟩;·rw[Hid,g,k];exact A.out
      ·rw[g];exact z
     case measure=>simp[intOf];omega
theorem zm4 {os ds a:List Nat}{c:Nat}(e:Dig os)(g:os.length=ds.length)(b:Dig ds)(f:Top a)(h:val a<=val ds)(d:val os+val (a.take os.length)=val (ds.take os.length)+10000^os.length*c):val os=val ds-val a:=by
 have g:a.length<=ds.length:=by
  by_cases h:ds.length<a.length
  ·have:=zbl b f h;omega
  ·omega
 rw[zcm om,zcm om]at d;have a:=val_lt e;cases c with
 |zero=>omega
 |succ c=>
  have a:10000^os.length*1<=10000^os.length*(c+1):=qK _ om;omega
theorem zgx (w:H)(u v:Value)(m n K:Nat)(b:NV w u m)(g:NV w v n)(c:m<10000^K)(a:n<=m)(d:K<=1000000000):
 Calls pg 187 #[u,v] w fun e w'=>∃x,e= .returned x/\NV w' x (m-n)/\Below w.heap.size w w':=by
 obtain⟨l,h,L,f,rfl⟩:=b;obtain⟨o,i,r,d,rfl⟩:=g;have g:=zaC f c;have g:=zaC d (zr a c);obtain⟨_,_,rfl,_⟩:=h.shape;obtain⟨_,_,rfl,_⟩:=i.shape;obtain⟨S,M,P,Q,R⟩:=qL Tryz.infoInt;have X:=zi a;have Y:=zi d;clear c a f d;go_enter func187,ntmps187
 go_wp2;go_loopw [5,6,7] (fun g f d wr=>∃(c:Nat) (a:List Nat) (s:Option Addr) (F:Nat),g=V s a.length F/\f=it .i64 (c:Nat)/\d=it .i64 (a.length:Nat)/\c<=1/\a.length<=l.length/\
  wr.ownsRow w.heap.size 3 1 (V s a.length F) a.length (a.map encD)/\Dig a/\Hid (val a+val (o.take a.length)=val (l.take a.length)+10000^a.length*c)/\Below w.heap.size w wr) (fun _ _ d _=>((l.length:Int)-intOf d).toNat)
 case atStart=>exact⟨0,[],O,0,rfl,rfl,rfl,om,sp,Ze _ _ _ _,fun d L=>by simp at L,by simp[Hid,val],zR _ _⟩
 case round=>
  obtain⟨c,a,s,F,rfl,rfl,rfl,_,_,j,J,N,f⟩:=hrel;by_cases g:a.length<l.length
  ·obtain⟨k,y,rfl,q,t⟩:=h.row (by intro e;rw[e]at g;simp at g);have h:=(f.cell (p:=⟨k,y+a.length,O⟩) q).trans (t a.length g);have g:=L.get a.length;have k:Hid (∀d g,d+o.getD a.length 0+c=l.getD a.length 0+10000*g->val (a ++ [d])+val (o.take (a.length+1))=val (l.take (a.length+1))+10000^(a.length+1)*g):=fun d g h=>zlM rfl N.out h
   have g:=r.get a.length;clear N;by_cases g:a.length<o.length
   ·obtain⟨h,t,rfl,q,r⟩:=i.row (by intro e;rw[e]at g;simp at g);have i:=(f.cell (p:=⟨h,t+a.length,O⟩) q).trans (r a.length g);generalize l.getD a.length 0=x at *;generalize o.getD a.length 0=y at *;by_cases Z:(x:Int)-(c:Int)-(y:Int)<0
    ·obtain⟨d,hdd,hdl⟩:∃d:Nat,(x:Int)-(c:Int)-(y:Int)+10000=(d:Int)/\d<10000:=⟨x+10000-c-y,om,om⟩;have i:=k.out d 1 om;have r:=zi i;have q:=zi hdd;clear i k hdd;go_wp2_with (at_builtin;refine qQ _ rfl _ _ 35 rfl w.heap.size 3 S (it .i64 0) 1 8 underlying35 M P Q R rfl dc (V s a.length F) a.length (a.map encD) rfl (j.alloc _) ⟨wr.heap.size,0,O⟩ 1 1 [it .i64 ((x:Int)-(c:Int)-(y:Int)+10000)] rfl rfl (Z4 _ _ _) ?c2 mo om (by have:=f.size;simp;omega) ?_)
     case c2=>first|rfl|(intro u b;simp at b;subst b;rfl)
     intro W T C A B;obtain⟨I,h,g,t,U,rfl,D,z⟩:=Jf j f C A B q.out;go_wp2;go_roundw
     case rel=>
      refine⟨1,I,_,t,rfl,rfl,by rw[g];simp,om,om,D,by rw[h];exact zak J hdl,?_,z⟩;rw[Hid,g,h];exact r.out
     case measure=>simp[intOf];omega
    ·obtain⟨d,hdd,hdl⟩:∃d:Nat,(x:Int)-(c:Int)-(y:Int)=(d:Int)/\d<10000:=⟨x-c-y,om,om⟩;have i:=k.out d 0 om;have r:=zi i;have q:=zi hdd;clear i k hdd;go_wp2_with (at_builtin;refine qQ _ rfl _ _ 35 rfl w.heap.size 3 S (it .i64 0) 1 8 underlying35 M P Q R rfl dc (V s a.length F) a.length (a.map encD) rfl (j.alloc _) ⟨wr.heap.size,0,O⟩ 1 1 [it .i64 ((x:Int)-(c:Int)-(y:Int))] rfl rfl (Z4 _ _ _) ?c2 mo om (by have:=f.size;simp;omega) ?_)
     case c2=>first|rfl|(intro u b;simp at b;subst b;rfl)
     intro W T C A B;obtain⟨I,h,g,t,U,rfl,D,z⟩:=Jf j f C A B q.out;go_wp2;go_roundw
     case rel=>
      refine⟨0,I,_,t,rfl,rfl,by rw[g];simp,om,om,D,by rw[h];exact zak J hdl,?_,z⟩;rw[Hid,g,h];exact r.out
     case measure=>simp[intOf];omega
   ·have hy:o.getD a.length 0=0:=za9 o _ om;generalize l.getD a.length 0=x at *;generalize o.getD a.length 0=y at *;subst hy;by_cases Z:(x:Int)-(c:Int)<0
    ·obtain⟨d,hdd,hdl⟩:∃d:Nat,(x:Int)-(c:Int)+10000=(d:Int)/\d<10000:=⟨x+10000-c,om,om⟩;have i:=k.out d 1 om;have r:=zi i;have q:=zi hdd;clear i k hdd;go_wp2_with (at_builtin;refine qQ _ rfl _ _ 35 rfl w.heap.size 3 S (it .i64 0) 1 8 underlying35 M P Q R rfl dc (V s a.length F) a.length (a.map encD) rfl (j.alloc _) ⟨wr.heap.size,0,O⟩ 1 1 [it .i64 ((x:Int)-(c:Int)+10000)] rfl rfl (Z4 _ _ _) ?c2 mo om (by have:=f.size;simp;omega) ?_)
     case c2=>first|rfl|(intro u b;simp at b;subst b;rfl)
     intro W T C A B;obtain⟨I,h,g,t,U,rfl,D,z⟩:=Jf j f C A B q.out;go_wp2;go_roundw
     case rel=>
      refine⟨1,I,_,t,rfl,rfl,by rw[g];simp,om,om,D,by rw[h];exact zak J hdl,?_,z⟩;rw[Hid,g,h];exact r.out
     case measure=>simp[intOf];omega
    ·obtain⟨d,hdd,hdl⟩:∃d:Nat,(x:Int)-(c:Int)=(d:Int)/\d<10000:=⟨x-c,om,om⟩;have i:=k.out d 0 om;have r:=zi i;have q:=zi hdd;clear i k hdd;go_wp2_with (at_builtin;refine qQ _ rfl _ _ 35 rfl w.heap.size 3 S (it .i64 0) 1 8 underlying35 M P Q R rfl dc (V s a.length F) a.length (a.map encD) rfl (j.alloc _) ⟨wr.heap.size,0,O⟩ 1 1 [it .i64 ((x:Int)-(c:Int))] rfl rfl (Z4 _ _ _) ?c2 mo om (by have:=f.size;simp;omega) ?_)
     case c2=>first|rfl|(intro u b;simp at b;subst b;rfl)
     intro W T C A B;obtain⟨I,h,g,t,U,rfl,D,z⟩:=Jf j f C A B q.out;go_wp2;go_roundw
     case rel=>
      refine⟨0,I,_,t,rfl,rfl,by rw[g];simp,om,om,D,by rw[h];exact zak J hdl,?_,z⟩;rw[Hid,g,h];exact r.out
     case measure=>simp[intOf];omega
  ·have b:=zm4 J om L Y.out X.out N.out;have c:=zi b;clear b N;go_wp2_with fail
   refine(trim_any _ _ a (JC j) om).mono ?_;rintro e T ⟨⟨x,rfl,a⟩,rfl⟩;go_wp2;go_ret;exact⟨x,rfl,zd2 a J c.out,f⟩
theorem zeo {w:H}{l:Array Oper}{rest:List Oper}{o:Oper}{a:Act}{Q:Exit->Act->H->Prop}(i:o.guard=O)(s x:Operand)
 (ho:o.op= .call { callee:= .builtin .append,args:=#[s,x],argTypes:=#[35,35] }) (base:Nat) (g:base<=w.heap.size) (c:Option Addr) (f:Nat) (os:List Nat) (hs:a.eval s=V c os.length f)
 (e:w.ownsRow base 3 1 (V c os.length f) os.length (os.map encD)) (m:Value) (ds:List Nat) (k:a.eval x=m) (n:Sl w m ds) (p:os.length+ds.length<=1000000000000)
 (h:∀d j w',w'.ownsRow base 3 1 (V d (os++ds).length j) (os++ds).length ((os++ds).map encD)->(∀B b,Below B b w->B<=base->Below B b w')->wpList pg l Q rest (a.put o.dst (V d (os++ds).length j)) w'):
 wpList pg l Q (o::rest) a w:=by
 obtain⟨l,j,q,r,t⟩:=qL Tryz.infoInt;rcases n with ⟨rfl,rfl⟩|⟨n,u,m,rfl,_,_,p,_⟩
 ·refine wpList_append_own_none i s x 35 ho base 3 l 1 underlying35 j _ _ _ hs e k ?_;have d:=h c f w (by simpa using e) (fun B b f _=>f);simpa using d
 ·refine qQ w i s x 35 ho base 3 l (it .i64 0) 1 8 underlying35 j q r t rfl dc _ _ _ hs e ⟨n,u,O⟩ ds.length m (ds.map encD) k sp (row_news p) (encD_one ds) mo om g ?_;intro m w' c k l;have i:os.map encD++ds.map encD=(os++ds).map encD:=sp;have j:os.length+ds.length=(os++ds).length:=sp;rw[i,j]at c;have i:∀B b,Below B b w->B<=base->Below B b w':=fun B b f b=>f.grown k (zL b g) (fun k f=>zL b (e.lt k f).1)
  by_cases e:m=V O 0 0
  ·subst e;have b:(os++ds).length=0:=by
    have f:=(l.1 rfl);simp only[zV]at f;rw[zX];omega
   have d:=h O 0 w' (by rw[b]at c⊢;exact c) i;rw[b]at d;exact d
  ·obtain⟨_,_,b,_⟩:=owns_parts c e;subst b;exact h _ _ w' c i
theorem zgl (ds:List Nat)(k:Nat)(h:k<=ds.length):val (ds.drop k)<=val ds:=by
 have a:=val_take_drop ds k h;have a:1*val (ds.drop k)<=10000^k*val (ds.drop k):=qM _ (zac om);omega
theorem NV.zero (w:H):NV w (V O 0 0) 0:=⟨[],ziR w,fun d a=>by simp at a,fun k h=>by simp at h,rfl⟩
theorem zm5 {ds:List Nat}(h:Top ds)(b:ds≠ [])(x:Nat):Top (x::ds):=by
 intro k a;have c:=Zq.2 b;obtain⟨j,rfl⟩:∃j,k=j+1:=⟨k-1,by simp at a;omega⟩;have:=h j (by simpa using a);simpa using this
theorem zm6 {w:H}{v:Value}{ss:List Nat}{S:Nat}(h:Sl w v (0::ss))(hd:Dig ss)(ht:Top ss)(hne:ss≠ [])(hS:val ss=S):NV w v (10000*S):=
 ⟨0::ss,h,fun d hm=>by
  rcases qw.1 hm with rfl|h;· omega
  ·exact hd d h,zm5 ht hne 0,by simp[val,hS]⟩
theorem zlP (m y S D:Nat)(a:S=m*D):10000*S+m*y=m*(y+10000*D):=by
 rw[a,qI,za0,zaS]
theorem zb9 (w:H)(u v:Value)(m n K:Nat)(D:NV w u m)(hv:NV w v n)(hm:m<10000^K)(X:n<10000^K)(hK:K<=100000000):
 Calls pg 184 #[u,v] w fun e w'=>∃x,e= .returned x/\NV w' x (m*n)/\Below w.heap.size w w':=by
 obtain⟨i0,hi,aq,ar,au⟩:=qL Tryz.infoInt;obtain⟨a,ad,an,ai,Y⟩:=hv;have aw:=zaC ai (by rw[Y];exact X);obtain⟨_,_,rfl,_⟩:=ad.shape;have z:=zi hm;have HN:=zi X;have L:=zi Y;clear hm X ai Y;go_enter func184,ntmps184
 go_wp2;go_loopw [5,6] (fun sv iv wr=>∃(k S:Nat),k<=a.length/\iv=it .i64 ((k:Int)-1)/\NV wr sv S/\Hid (S=m*val (a.drop k))/\Below w.heap.size w wr) (fun _ iv _=>(intOf iv+1).toNat)
 case atStart=>exact⟨a.length,0,zh _,rfl,NV.zero _,by rw[Hid,Z6 (zh _)];simp[val],zR _ _⟩
 case round=>
  obtain⟨k,S,hk,rfl,hS,R,c⟩:=hrel;obtain⟨I,i,ae,ah,j⟩:=hS;obtain⟨_,_,rfl,_⟩:=i.shape;have A:=zi j;clear j;have a4:Hid (S<10000^(K+K)):=by
   rw[Hid,R.out,ZI];exact zbc z.out (zr (zgl a k hk) (by rw[L.out];exact HN.out))
  have ax:=zaC ah (by rw[A.out];exact a4.out);cases k with
  |zero=>
   have a8:S=m*n:=by rw[R.out,Zd,L.out]
   have HF:=zi a8;clear a8;go_wp2_with fail
   refine(trim_any _ _ I i om).mono ?_;rintro e w3 ⟨⟨x,rfl,hx⟩,rfl⟩;go_wp2;go_ret;exact⟨x,rfl,zd2 hx ae (by rw[A.out,HF.out]),c⟩
  |succ k=>
   obtain⟨M,a2,rfl,T,ab⟩:=ad.row (by intro e;simp[e]at hk);have C:=(c.cell (p:=⟨M,a2+k,O⟩) T).trans (ab k om);have a5:=an.get k;have a7:=val_drop a k om;have a6:=zgl a k om;have h:Hid (10000*S+m*a.getD k 0=m*val (a.drop k)):=by rw[Hid,a7];exact zlP m _ S _ R.out
   have y:Hid (m*val (a.drop k)<10000^(K+K)):=by
    rw[Hid,ZI];exact zbc z.out (zr a6 (by rw[L.out];exact HN.out))
   have F:=D.below c;generalize a.getD k 0=J at *;clear a7 a6 a4 ab;by_cases a0:I= []
   ·subst a0;have al:S=0:=by rw[<-A.out];rfl
    go_wp2_with (at_builtin;refine zeo rfl _ _ rfl wr.heap.size (zh _) O 0 [] rfl (Ze _ _ _ _) _ [] rfl i sp ?_)
    intro a3 aj w4 q o;have b:=o wr.heap.size wr (zR _ _) (zh _);have r:NV w4 (V a3 ([] ++ []).length aj) (10000*S):=⟨[],JC q,fun av hd=>by simp at hd,fun k N=>by simp at N,by rw[al];rfl⟩;clear o q;have W:=(b.cell (p:=⟨M,a2+k,O⟩) (zv T c.size)).trans C;have a1:=F.below b;have f:=c.trans (b.mono c.size);clear b C F i;go_wp2_with fail
    refine(times_any _ _ m J K a1 a5 z.out om).mono ?_;rintro e w5 ⟨xv,rfl,t,d⟩;have s:=r.below d;have g:=f.trans (d.mono f.size);clear d r f W;go_wp2_with fail
    refine(plus_any _ _ _ (10000*S) (m*J) (K+K) s t (by have P:=h.out;have Q:=y.out;omega) (by have P:=h.out;have Q:=y.out;omega) om).mono ?_;rintro e w6 ⟨sv,rfl,j,l⟩;have U:=g.trans (l.mono g.size);clear l s t g;go_wp2;go_roundw
    case rel=>exact⟨k,_,om,by go_num,j,h,U⟩
    case measure=>simp[intOf]
   ·have ay:(0:Int)<(I.length:Int):=by have:=Zq.2 a0;omega
    go_wp2_with (at_builtin;refine qQ _ rfl _ _ 35 rfl wr.heap.size 3 i0 (it .i64 0) 1 8 underlying35 hi aq ar au rfl dc (V O 0 0) 0 [] rfl (Ze _ _ _ _) ⟨wr.heap.size,0,O⟩ 1 1 [it .i64 0] rfl rfl (Z4 _ _ _) ?c2 mo om sp ?_)
    case c2=>first|rfl|(intro u D;simp at D;subst D;rfl)
    intro v3 w3 Z a9 aa;obtain⟨g3,ak,ao,_⟩:=owns_parts (ds:= [0]) Z aa;subst ao;have B:=((zR _ _).alloc (zh _) _).grown a9 sp (fun k N=>by simp[Value.ownBlock]at N);have af:=i.below B;clear a9 aa;go_wp2_with (at_builtin;refine zeo rfl _ _ rfl wr.heap.size B.size (E ⟨g3,0,O⟩) ak [0] rfl Z _ I rfl af so ?_)
    intro a3 aj w4 q o;have b:=o wr.heap.size wr B (zh _);have r:=zm6 (JC q) ae ah a0 A.out;clear o q Z B af;have W:=(b.cell (p:=⟨M,a2+k,O⟩) (zv T c.size)).trans C;have a1:=F.below b;have f:=c.trans (b.mono c.size);clear b C F i;go_wp2_with fail
    refine(times_any _ _ m J K a1 a5 z.out om).mono ?_;rintro e w5 ⟨xv,rfl,t,d⟩;have s:=r.below d;have g:=f.trans (d.mono f.size);clear d r f W;go_wp2_with fail
    refine(plus_any _ _ _ (10000*S) (m*J) (K+K) s t (by have P:=h.out;have Q:=y.out;omega) (by have P:=h.out;have Q:=y.out;omega) om).mono ?_;rintro e w6 ⟨sv,rfl,j,l⟩;have U:=g.trans (l.mono g.size);clear l s t g;go_wp2;go_roundw
    case rel=>exact⟨k,_,om,by go_num,j,h,U⟩
    case measure=>simp[intOf]
end Go.Proofs.YtnhfdcfnojnofaaGreatDoor.T
namespace Go.Proofs.YtnhfdcfnojnofaaGreatDoor
open Go.RowKit
theorem zoa {a ds:List Nat}{k c S:Nat}(d:k<a.length)(e:k<ds.length)(b:val (a.take k)+4294967296^k*c=S*val (ds.take k)):
 val ((a.set k ((c+ds.getD k 0*S)%4294967296)).take (k+1))+4294967296^(k+1)*((c+ds.getD k 0*S)/4294967296)=S*val (ds.take (k+1)):=by
 rw[val_lay _ _ _ d,val_take_succ ds k e,qI S,<-b,qI];have:S*(4294967296^k*ds.getD k 0)=4294967296^k*(ds.getD k 0*S):=by ac_rfl
 omega
theorem up_bd {c d S:Nat}(b:c<S)(e:d<4294967296)(a:S<=2147483648):c+d*S<18446744073709551616/\(c+d*S)/4294967296<S:=by
 have a:d*S<=4294967295*S:=qM _ om;constructor
 ·omega
 ·rw[j9 dc];omega
theorem ziV {z:Nat}(h:z<18446744073709551616):IntKind.u64.wrap (z:Int)=(z:Int):=by
 have e:∀n:Int,IntKind.u64.wrap n=n%18446744073709551616:=fun n=>by simp[IntKind.wrap,IntKind.signed,IntKind.bits]
 rw[e];omega
theorem zgm (w:H)(v:Value)(ds:List Nat)(s:Nat)(hs:s<=31)(b:U32s w v ds)(c:ds≠ [])(d:Dig ds)(f:ds.length<=1073741823):
 Calls pg 310 #[v,it .i64 (s:Nat)] w fun e w'=>∃(g:Nat) (a:List Nat),e= .returned (V (E ⟨g,0,O⟩) (ds.length+1) (ds.length+1))/\a.length=ds.length+1/\Dig a/\Row w' g 0 a/\zbE w' g 0 (ds.length+1)/\val a=2^s*val ds/\Below w.heap.size w w'/\w.heap.size<=g/\g<w'.heap.size:=by
 obtain⟨_,_,rfl,_,a⟩:=b;obtain⟨b,q,rfl,m,i⟩:=a c;have f:=Zq.2 c;obtain⟨f,c,j,k,l⟩:=qL Tryz.info131;have h:0<2^s:=zac dc;have u:2^s<=2147483648:=qz (n:=2) dc hs;clear a;go_enter func310,ntmps310
 go_wp2_with (at_make;refine zgw _ rfl _ _ 98 rfl 224 f underlying98 c j k l _ _ _ _ (ds.length+1) rfl rfl sp sp om ?_;intro f o p A F)
 have y:=Upd.refl w.heap.size 0 (ds.length+1) f;have x:=i.below A m;have r:b≠w.heap.size:=om;generalize a:w.heap.size=g at *;have t:=zi a;clear a i c j k l;obtain⟨S,hS⟩:∃S,2^s=S:=⟨_,rfl⟩;rw[hS]at h u;have j:=zi hS;clear hS;go_loopw [6,15] (fun l i wr=>∃(k c:Nat) (a:List Nat),k<=ds.length/\c<S/\i=it .i64 (k:Nat)/\l=it .u64 (c:Nat)/\Hid (a.length=ds.length+1)/\Dig a/\Row wr g 0 a/\Upd g 0 (ds.length+1) f wr/\
  Hid (val (a.take k)+4294967296^k*c=S*val (ds.take k))) (fun _ i _=>ds.length-(intOf i).toNat)
 case atStart=>exact⟨0,0,_,qp _,h,rfl,rfl,by simp[Hid],(fun f d=>by rw[List.eq_of_mem_replicate d];decide),o,y,by simp[Hid,val]⟩
 case round=>
  obtain⟨k,c,a,_,B,rfl,rfl,h,C,m,i,o⟩:=hrel;by_cases f:k<ds.length
  ·have l:=i.other r x;have b:=l k f;have b:=d.get k;have d:k<a.length:=by rw[h.out];omega
   have q:=i.free p k om;have r:=zoa d f o.out;have l:=up_bd B b u;have f:=m.setCell k ((c+ds.getD k 0*S)%4294967296) d;have b:=i.setCell k (show k<ds.length+1 by omega) (it .u32 (((c+ds.getD k 0*S)%4294967296:Nat):Int));generalize ds.getD k 0=x at *;obtain⟨y,hy⟩:∃y,c+x*S=y:=⟨_,rfl⟩;obtain⟨z,hz⟩:∃z,x*S=z:=⟨_,rfl⟩;have u:IntKind.u64.wrap ((x:Int)*2^s)=(z:Int):=by
    rw[show(x:Int)*2^s=((x*S:Nat):Int)by rw[<-j.out];simp,hz];exact ziV om
   have u:bits .or .u64 (c:Int) (z:Int)=(y:Int):=by
    rw[u64_or_nat _ _ om om,Nat.or_comm,nat_join s z c (by rw[<-hz,<-j.out];exact Nat.mul_mod_left _ _) (by rw[j.out];exact B)];omega
   have D:wr.cell? ⟨g,k,O⟩=E (it .u32 ((a.getD k 0:Nat):Int)):=by have:=m k d;rwa [qi]at this
   rw[hy]at r l f b;simp only[qi]at f b q;have u:((y%4294967296:Nat):Int)=(y:Int)%4294967296:=om;have x:Hid (((y/4294967296:Nat):Int)=(y:Int)/4294967296):=by rw[Hid];omega
   rw[u]at f b;have B:=zi r;have z:=l.1;have z:=zi l.2;clear r l o hz hy u;go_wp2;go_roundw
   case rel=>exact⟨k+1,y/4294967296,_,om,z.out,by go_num,by rw[x.out],by rw[Hid,Zf,h.out],C.set _ _ (Qx _ dc),f,b,B.out⟩
   case measure=>simp[intOf];omega
  ·have l:k=ds.length:=om;have d:k<a.length:=by rw[h.out];omega
   have q:=i.free p k om;have D:wr.cell? ⟨g,k,O⟩=E (it .u32 ((a.getD k 0:Nat):Int)):=by have:=m k d;rwa [qi]at this
   have f:=m.setCell k c d;have b:=i.setCell k (show k<ds.length+1 by omega) (it .u32 (c:Int));simp only[qi]at f b q;have m:c<4294967296:=om;have i:=val_lay a k c d;have d:Hid (val (a.set k c)=S*val ds):=by
    rw[Hid];have a:=o.out;rw[l,Zw]at a;rw[l]at i;rw[zy (by rw[Zf,h.out];omega),zal m,zam m,Z7,qy,a]at i;rw[l];exact i
   clear i o;subst l;go_wp2;go_ret;exact⟨g,_,rfl,by rw[Zf,h.out],C.set _ _ m,f,b.free p,by rw[d.out,j.out],by rw[t.out];exact A.trans (b.below (zh _)),by rw[t.out];omega,by rw[b.size];exact F⟩
theorem ziW {P:Program}{n l:Nat}{row:String}{args:Array Value}{w:H}{R a:Value->H->Prop}(h:Rows P row args w R)(d:∀v w,R v w->a v w):RowsIn (Fence.wide.inRound l) n P row args w a:=by
 intro c b _;obtain⟨v,a,r,s⟩:=h c b;exact⟨v,a,d v a r,stepsIn_wide.2 s⟩
theorem zfE {P:Program}{n l:Nat}{o:Oper}{a:Act}{K K':Act->H->Prop}{Q:Exit->Act->H->Prop}(hK:∀a w,K a w->K' a w){r:Result Next}(h:o.upon P a K Q r):o.uponIn (Fence.wide.inRound l) n P a K' Q r:=by
 unfold Oper.upon at h;split at h
 ·exact hK _ _ h
 ·exact hK _ _ h
 ·exact hK _ _ h
 ·refine⟨(fun h=>by cases h),Zr l (zS.2 (h.mono ?_))⟩;rintro e w' he;cases e with
  |returned v=>exact hK _ _ he
  |panicked c=>exact he
  |outgrown=>exact he
 ·exact⟨(fun h=>by cases h),ziW h (fun _ _ h=>hK _ _ h)⟩
 ·exact h
 ·exact h.elim
theorem ziX {P:Program}{n l:Nat}{b:Array Oper}{Q:Exit->Act->H->Prop}{i:Nat}{K e:Act->H->Prop}{a:Act}{w:H}(g:∀o∈b.toList,∀c,o.op≠ .defer c)(f:¬LetsOut Q)(d:∀a w,K a w->e a w)
 (h:wpOp P b Q i K a w):wpOpIn (Fence.wide.inRound l) n P b Q i e a w:=by
 unfold wpOp at h;unfold wpOpIn;cases ho:b[i]? with
 |none=>rw[ho]at h;exact d _ _ h
 |some o=>
  rw[ho]at h;simp only at h⊢;have e:o∈b.toList:=by
   rw[<-Array.getElem?_toList]at ho;exact qJ ho
  split
  ·rename_i b
   rw[z8 b]at h;rcases h with h|h
   ·refine⟨fun _ _=>trivial,?_⟩;rw[Oper.semAt_eq _ _ _ (g o e)];exact zfE d h
   ·exact absurd h.2 f
  ·rename_i b
   rw[zW b]at h;exact⟨fun _ _=>trivial,d _ _ h⟩
theorem zfi {P:Program}{n l:Nat}{j:Region.Mode}{d:Array Oper}{Q:Exit->Act->H->Prop}(f:∀o∈d.toList,∀c,o.op≠ .defer c)(e:¬LetsOut Q):∀(b:Nat) (g:Array Bool) (a:Act) (w:H),wpAny P j d Q b g a w->wpAnyIn (Fence.wide.inRound l) n P j d Q b g a w
 |0,_,_,_,h=>h
 |b+1,_,_,_,h=>⟨h.1,fun i k=>ziX f e (fun a w h=>zfi f e b _ a w h) (h.2 i k)⟩
theorem zan {P:Program}{n l id:Nat}{b:Array Oper}{Q:Exit->Act->H->Prop}{S:H->Prop}{a:Act}{w:H}(e:P.follows .mixedOrders=true)(f:b.toList.all (fun o=>match o.op with|.defer _=>false|_=>true)=true)(c:¬LetsOut Q)
 (d:S w.drew) (h:S w.drew->wpAnyH P .any b Q S b.size (Array.replicate b.size false) a w.drew):(Code.region id b true).wpIn (Fence.wide.inRound l) n P Q a w:=by
 refine zcG e (zfi (fun o e b b=>?_) c _ _ _ _ (wpAny_of_held _ _ _ _ (h d)));have:=qR.1 f o e;rw[b]at this;cases this
end Go.Proofs.YtnhfdcfnojnofaaGreatDoor
