import Derived.Test.YtmimmcmbgnjjcaaGreatDoorFon1Z3
import Derived.Test.YtmimmcmbgnjjcaaGreatDoorFon1Z2
open Option renaming none->O,some->E
open Go.Value renaming slice->V,bool->G,string->gS,pointer->pn,tuple->tp,int->it,agg->ag
open Go.Obj renaming cells->cl
open Go renaming World->H
open Go.Proofs.Tryz renaming prog->pg
open Go.Proofs.Tryz
open Go.Ending renaming returned->Xa
open Go.IntKind renaming i64->Xb
open Go.Addr renaming mk->Xd
set_option linter.unusedSimpArgs false
set_option linter.unusedVariables false
set_option maxHeartbeats 2000000
set_option maxRecDepth 100000
namespace Go.Proofs.YtmimmcmbgnjjcaaGreatDoor
namespace T
open Go.RowKit
theorem Tryz.infoInt:(Tryz.prog.info? 3).map (fun i=>(i.zero,i.size,i.bytes))=E (E (it Xb 0),1,8):=kr
end T

section
open Go.RowKit
variable {ds:List Nat}
theorem zqn(ds:List Nat)(i x:Nat):(ds.set i x).map encD=(ds.map encD).set i (encD x):=by rw[List.map_set]
theorem znx{a:List Nat}{k c m:Nat}(b:k<a.length)(d:val (a.take k)+4294967296^k*c=val (ds.take k)*1000000000+m):
 val ((a.set k ((c+ds.getD k 0*1000000000)%4294967296)).take (k+1))+4294967296^(k+1)*((c+ds.getD k 0*1000000000)/4294967296)=val (ds.take (k+1))*1000000000+m:=by
 rw[val_lay a k _ b,val_take_any ds k,Zs,Zg,Zt];omega
theorem top_of_ge(c:Dig ds)(h:∀k,ds.length=k+1->4294967296^k<=val ds):Top ds:=by
 intro k d b;have a:=h k d;have e:=zbo ds k om;rw[zP om]at e;rw[e,val_append,b]at a;have b:=val_lt (c.take k);rw[zX,Qw om]at b;simp[val]at a;omega
theorem zqo{c:Nat}(a:c≠0):Top (ds ++ [c]):=by
 intro k b;have:ds.length=k:=by simpa using b
 subst this;simpa using a
theorem zjY(w:H)(B g cap m:Nat)(ds:List Nat)(d:w.ownsRow B 229 1 (V (E (Xd g 0 O)) ds.length cap) ds.length (ds.map encD))(b:B<=w.heap.size)(c:ds.length<=1073741823)(hm:m<1000000000)(o:Dig ds)(y:Top ds):
 Calls pg 126 #[V (E (Xd g 0 O)) ds.length cap,it .u32 (m:Nat)] w fun e w'=>
  ∃i h a,e=Xa (V (E (Xd i 0 O)) a.length h)/\w'.ownsRow B 229 1 (V (E (Xd i 0 O)) a.length h) a.length (a.map encD)/\Dig a/\val a=val ds*1000000000+m/\a.length<=ds.length+1/\Below B w w'/\Top a:=by
 have u:=(ze0 d).1;obtain⟨D,v,z,A,C⟩:=Zn Xr;go_enter func126,ntmps126
 go_wp2;go_loopw [5,11] (fun f b wr=>∃(k c:Nat) (a:List Nat),k<=ds.length/\c<4294967296/\b=it Xb (k:Nat)/\f=it .u64 (c:Nat)/\Hid (a.length=ds.length)/\Dig a/\wr.ownsRow B 229 1 (V (E (Xd g 0 O)) ds.length cap) ds.length (a.map encD)/\Below B w wr/\
  Hid (a.drop k=ds.drop k)/\Hid (val (a.take k)+4294967296^k*c=val (ds.take k)*1000000000+m)) (fun _ b _=>ds.length-(intOf b).toNat)
 case atStart=>exact⟨0,m,ds,qo _,om,rfl,rfl,rfl,o,d,qf _ _,rfl,by simp[Hid,val]⟩
 case round=>
  obtain⟨k,c,a,_,_,rfl,rfl,b,l,d,j,p,r⟩:=hrel;by_cases f:k<ds.length
  ·have q:k<a.length:=by rw[b.out];exact f
   have f:=row_of_owns d b.out k q;rw[zbq p.out,qt]at f;have f:=o.get k;have f:=d.frozenAt k;have f:=(d.stored k (encD ((c+ds.getD k 0*1000000000)%4294967296))).1;rw[<-zqn]at f;have t:=zf (znx (m:=m) q r.out);generalize ds.getD k 0=x at *;have q:encD ((c+x*1000000000)%4294967296)=it .u32 (((c:Int)+x*1000000000)%4294967296):=by unfold encD;exact qm _ om
   rw[q]at f;have q:=zf (show(((c+x*1000000000)/4294967296:Nat):Int)=((c:Int)+x*1000000000)/4294967296 by omega);have s:=zf (show(c+x*1000000000)/4294967296<4294967296 by omega);go_wp2;go_roundw
   case rel=>exact⟨k+1,(c+x*1000000000)/4294967296,_,om,s.out,by go_num,by rw[q.out],by rw[Hid,qX,b.out],l.set _ _ (Z0 _ dc),f,j.setCell (by exact u) _,by rw[Hid,QH];exact zat p.out,t.out⟩
   case measure=>simp[intOf];omega
  ·have f:k=ds.length:=om;have p:=r.out;rw[f,zP (by rw[b.out];omega),zP (zh ds.length)]at p;by_cases r:c=0
   ·subst r;have f:=zf p;have u:Top a:=by
     refine top_of_ge l (fun t s=>?_);have q:=y.le t (by rw[<-b.out];exact s);have s:=f.out;omega
    have t:=zf u;go_wp2;go_ret;have s:=b.out;rw[<-s]at d;exact⟨g,cap,a,zfD s.symm,d,l,by have:=f.out;omega,om,j,t.out⟩
   ·have s:0<(c:Int):=om;have f:=zf p;have p:=j.size;go_wp2_with (at_builtin;refine zcU _ rfl _ _ 83 rfl B 229 D (it .u32 0) 1 4 underlying83 v z A C rfl dc (V (E (Xd g 0 O)) ds.length cap) ds.length (a.map encD) rfl (d.alloc _) ⟨wr.heap.size,0,O⟩ 1 1 [encD c] rfl rfl ?c1 ?c2 mo om so ?_)
    case c1=>exact JC _ _ _
    case c2=>intro u d;simp at d;subst d;rfl
    intro u v d s p;have t:u≠V O 0 0:=fun e=>p e
    have p:a.map encD ++ [encD c]=(a ++ [c]).map encD:=sp;rw[p]at d;obtain⟨i,h,p,_,_,_,_,_⟩:=owns_parts d t;subst p;have p:=(j.alloc om _).grown s so (fun k j=>by simp[Value.ownBlock]at j;omega);have j:(a ++ [c]).length=ds.length+1:=by have:=b.out;simp;omega
    go_wp2;go_ret;rw[<-j]at d;refine⟨i,h,a ++ [c],zfD j.symm,d,l.append (by intro d o;simp at o;omega),?_,om,p,zqo r⟩;have q:=f.out;have a:=b.out;rw[val_append,a];simp[val];exact q
def zhl:Value->Nat|gS s=>s.size|_=>0
theorem zi4{l m:List UInt8}(h:Qm l=true)(hs:∀c∈m,c∈l):Qm m=true:=by
 unfold Qm at *;rw[Zi]at *;exact fun c a=>h c (hs c a)
theorem zmt(l:List UInt8):ZE (Lib.trimLeftB l 48)=ZE l:=by
 unfold Lib.trimLeftB;induction l with
 |nil=>rfl
 |cons c l b=>
  by_cases a:c=48
  ·subst a;have e:ZE (48::l)=ZE l:=by simp[ZE]
   rw[e,List.dropWhile_cons_of_pos sp];exact b
  ·rw[List.dropWhile_cons_of_neg (by simpa using a)]
theorem zk0(l:List UInt8)(c:UInt8):(Lib.trimLeftB l c).length<=l.length:=by
 unfold Lib.trimLeftB;exact(List.dropWhile_sublist _).length_le
theorem zlG{L:List UInt8}{k n:Nat}(h:k=0\/n=9)(a:k+n<=L.length):ZE (L.take (k+n))=ZE (L.take k)*1000000000+ZE ((L.drop k).take n):=by
 rw[List.take_add,zkX];rcases h with h|h
 ·subst h;simp[ZE]
 ·subst h;have:((L.drop k).take 9).length=9:=by rw[zX,Za];omega
  rw[this]
theorem zmu(s:ByteArray)(m:Nat)(w:H)(hm:m<=1099511627776)(hs:s.size<=1099511627776)(h:s.data.toList= []\/m<s.size\/Qm s.data.toList=false):
 Calls pg 69 #[gS s,it Xb (m:Nat)] w fun e w'=>e=Xa (tp #[V O 0 0,G false])/\w'=w:=by
 by_cases a:s.size=0
 ·have b:((s.size:Int) == 0)=true:=by rw[a];rfl
  clear h;go_enter func69,ntmps69
  go_wp2;go_ret2;exact⟨rfl,rfl⟩
 ·have b:((s.size:Int) == 0)=false:=ZN.2 om;by_cases c:m<s.size
  ·have d:(m:Int)<(s.size:Int):=om;clear h;go_enter func69,ntmps69
   go_wp2;go_ret2;exact⟨rfl,rfl⟩
  ·have d:¬(m:Int)<(s.size:Int):=om;have f:Qm s.data.toList=false:=by
    rcases h with h|h|h
    ·exact absurd (by rw[Lib.size_eq,h];rfl) a
    ·exact absurd h c
    ·exact h
   clear h;go_enter func69,ntmps69
   go_wp2_with fail
   refine(zlz s _ hs f).mono ?_;rintro e w' ⟨rfl,rfl⟩;go_wp2;go_ret2;exact⟨rfl,rfl⟩
theorem zlH(s:ByteArray)(m:Nat)(w:H)(hm:m<=1000000000)(a:0<s.size)(hs:s.size<=m)(h:Qm s.data.toList=true):
 Calls pg 69 #[gS s,it Xb (m:Nat)] w fun e w'=>∃v,e=Xa (tp #[v,G true])/\NatV w' v (ZE s.data.toList)/\Below w.heap.size w w':=by
 have f:((s.size:Int) == 0)=false:=ZN.2 om;have a:¬(m:Int)<(s.size:Int):=om;have a:(Lib.trimLeftB s.data.toList 48).length<=s.size:=by rw[Lib.size_eq s];exact zk0 _ _
 have A:Qm (Lib.trimLeftB s.data.toList 48)=true:=zi4 h (fun u l=>(List.dropWhile_sublist _).subset l);have D:=zf (zmt s.data.toList);obtain⟨j,c,d,g,i⟩:=Zn Xr;go_enter func69,ntmps69
 go_wp2_with fail
 refine(zkY s _ om h).mono ?_;rintro e w' ⟨rfl,rfl⟩;go_wp2_with fail
 refine(Tryz.strings_TrimLeft_one s 48 dc _).mono ?_;rintro e b ⟨rfl,rfl⟩;generalize Lib.trimLeftB s.data.toList 48=L at *;have a:(ByteArray.mk L.toArray).size=L.length:=by simp[ByteArray.size]
 go_wp2_with (at_make;refine wpList_make_own _ rfl _ _ 83 rfl b.heap.size 229 j (it .u32 0) 1 underlying83 c d g _ _ _ (L.length/9+1) rfl rfl ?c0 (by rw[i];omega) mo (zh _) ?_)
 case c0=>rw[<-a];omega
 intro g c d;have o:=(qf _ _).grown d (zh _) (fun k h=>by simp at h);have j:=zf a;go_wp2;go_loopw [0,6] (fun g p wr=>∃(t:ByteArray) (k i d:Nat) (a:List Nat),g=gS t/\p=V (E (Xd i 0 O)) a.length d/\k<=L.length/\t.size<=1000000000/\Hid (t.data.toList=L.drop k)/\Hid (t.size=L.length-k)/\Hid (k=0\/(L.length-k)%9=0)/\
  wr.ownsRow b.heap.size 229 1 (V (E (Xd i 0 O)) a.length d) a.length (a.map encD)/\Dig a/\Top a/\Hid (val a=ZE (L.take k))/\a.length<=k/\Below b.heap.size b wr) (fun g _ _=>zhl g)
 case atStart=>
  refine⟨_,0,b.heap.size,L.length/9+1,[],rfl,rfl,qo _,by rw[j.out];omega,by simp[Hid],by rw[Hid,j.out,zdO],Or.inl rfl,c,?_,Top.nil,by simp[Hid,val,ZE],zh _,o⟩;intro g j;simp at j
 case round=>
  obtain⟨t,k,i,d,a,rfl,rfl,_,_,x,g,B,c,j,y,z,_,o⟩:=hrel;by_cases p:0<t.size
  ·have p:(t.size-1)%9+1<=t.size:=by have:=Nat.mod_le (t.size-1) 9;omega
   have p:(t.extract 0 ((t.size-1)%9+1)).data.toList=(L.drop k).take ((t.size-1)%9+1):=by rw[zdm,Q2,zdO,x.out]
   have r:(t.extract 0 ((t.size-1)%9+1)).size<=9:=by
    rw[Lib.size_eq,p,zX];omega
   have q:Qm (t.extract 0 ((t.size-1)%9+1)).data.toList=true:=by
    rw[p];exact zi4 A (fun u l=>zak (ZY l))
   have l:=zkp q;have u:ZE (t.extract 0 ((t.size-1)%9+1)).data.toList<1000000000:=by
    have f:(t.extract 0 ((t.size-1)%9+1)).data.toList.length<=9:=by rw[<-Lib.size_eq];exact r
    have l:10^(t.extract 0 ((t.size-1)%9+1)).data.toList.length<=10^9:=ZD om f;omega
   have C:k+((t.size-1)%9+1)<=L.length:=by have:=g.out;omega
   have l:k=0\/(t.size-1)%9+1=9:=by
    have f:=g.out;rcases B.out with h|h
    ·exact Or.inl h
    ·right;omega
   have A:=zf (zlG (L:=L) l C);have B:=zf p;have l:(t.extract ((t.size-1)%9+1) t.size).data.toList=L.drop (k+((t.size-1)%9+1)):=by
    rw[Lib.extract_to_end,x.out,Jn]
   have x:=zf l;have p:(L.length-(k+((t.size-1)%9+1)))%9=0:=by have:=g.out;omega
   have C:=zf p;have p:(t.extract ((t.size-1)%9+1) t.size).size=L.length-(k+((t.size-1)%9+1)):=by rw[Lib.size_eq,l,Za]
   have l:=zf p;have F:=o.size;go_wp2_with fail
   refine(zom _ _ r q).mono ?_;rintro e p ⟨rfl,rfl⟩;have p:(t.extract 0 ((t.size-1)%9+1)).data.toList=t.data.toList.take ((t.size-1)%9+1):=by rw[zdm,Q2,zdO]
   rw[p]at u;have q:=zf (qm ZE (p.symm.trans B.out));go_wp2_with fail
   refine(zjY _ b.heap.size i d _ a c F om u j y).mono ?_;rintro e b ⟨p,b,i,rfl,B,u,I,_,r,F⟩;go_wp2;go_roundw
   case rel=>exact⟨_,k+((t.size-1)%9+1),p,b,i,rfl,rfl,om,by rw[l.out];omega,x,l,Or.inr C.out,B,u,F,by rw[Hid,I,q.out,A.out,z.out],om,o.trans r⟩
   case measure=>show(t.extract _ _).size<t.size;rw[l.out];have:=g.out;omega
  ·have b:k=L.length:=by have:=g.out;omega
   have i:val a=ZE s.data.toList:=by rw[z.out,b,Zx,D.out]
   have g:=zf i;have k:=(ze0 c).2;have l:=row_of_owns c rfl;have i:a.length<=d:=by
    obtain⟨_,f|⟨_,_,_,b,_,_,d,_⟩⟩:=c;·exact absurd f.1 sp
    ·simp only[qp]at b;obtain⟨_,_,rfl⟩:=b;exact d
   go_wp2;go_ret2;refine⟨_,rfl,?_,o⟩;rw[<-g.out];exact⟨a,U32s.mk l k i,j,y,rfl⟩
open Go.RowKit Go.Sort Go.Lib
theorem zia(u:Nat)(hu64:u<18446744073709551616)(w:H)(htab:Lib.TabIs pg w "internal/strconv.uint64pow10" .u64 Lib.pow10Tab):
 Calls pg 225 #[it .u64 (u:Nat),it Xb 10] w fun e w'=>e=Xa (gS ⟨(Lib.decDigits u).toArray⟩)/\Below w.heap.size w w':=by
 by_cases hs:u<100
 ·have hs2:(u:Int)<100:=om;go_enter func225,ntmps225
  go_wp2_with fail
  refine(Tryz.internal_strconv_small u hs _).mono ?_;rintro e w' ⟨rfl,rfl⟩;go_wp2;go_ret;exact⟨rfl,qf _ _⟩
 ·have hu1:1<=u:=om;have hnd20:Lib.nDigits u<=20:=by have:=Lib.numDigits_eq u hu1 hu64;split at this<;>omega
  have hs2:(100:Int)<=(u:Int):=om;have hal:Tryz.prog.arrayLen 201=24:=by simp[Program.arrayLen,underlying201]
  have hsl1:∀W,(Instr.sliceAt 201 (pn (E (Xd w.heap.size 0 O))) O (E (it Xb (Lib.nDigits u:Int))) O).run pg W= .ok (V (E (Xd w.heap.size 0 O)) (Lib.nDigits u) 24) W:=fun W=>by
   rw[run_sliceAt_array_h W 201 ⟨w.heap.size,0,O⟩ (by simp[Program.arrayLen,Program.elem,underlying201]) Xb (Lib.nDigits u:Int) om (by rw[hal];omega)];go_simp
  have hH0:=Lib.holds_zero0 w 201 (Lib.nDigits u) om;have hfmt:=Tryz.internal_strconv_formatBase10 w.heap.size 0 24 u (Array.replicate (Lib.nDigits u) 0) (w.alloc (cl Lib.zeros24 201)) hH0 (by rw[JB];exact Lib.lt_pow_nDigits u) hu64 (by rw[JB];omega);rw[JB]at hfmt;have HH0:=zf hH0;have HF0:=zf hfmt;clear hH0 hal hfmt;go_enter func225,ntmps225
  go_wp2_with fail
  refine(Tryz.internal_strconv_numDigits u hu1 hu64 _ (Lib.tabIs_alloc htab _)).mono ?_;rintro e w' ⟨rfl,rfl⟩;go_wp2_with fail
  refine HF0.out.mono ?_;rintro e w' ⟨rfl,k,v',dk,rfl,hF⟩;have hcv:(convert 65 9 (V (E (Xd w.heap.size 0 O)) (Lib.nDigits u) 24)).run pg ((putRow (fun(b:UInt8)=>it .u8 (b.toNat:Int)) (w.alloc (cl Lib.zeros24 201)) w.heap.size 0 dk).drewN k)= .ok (gS ⟨(Lib.decDigits u).toArray⟩) ((putRow (fun(b:UInt8)=>it .u8 (b.toNat:Int)) (w.alloc (cl Lib.zeros24 201)) w.heap.size 0 dk).drewN k):=by
   have h:=run_convert_bytes_back (P:=pg) ((putRow (fun(b:UInt8)=>it .u8 (b.toNat:Int)) (w.alloc (cl Lib.zeros24 201)) w.heap.size 0 dk).drewN k) 65 9 5 ⟨w.heap.size,0,O⟩ 24 (Lib.decDigits u) underlying65 underlying5 underlying9 (fun j hj=>by
    rw[Lib.row_is_numeral hF j hj,Lib.add_plain,World.cell?_drewN];exact cell?_putRow (fun(b:UInt8)=>it .u8 (b.toNat:Int)) _ w.heap.size 0 _ dk HH0.out (by rw[hF.size,JB]) j (by rw[hF.size];rw[Lib.decDigits_length]at hj;exact hj))
   rw[Lib.decDigits_length]at h;exact h
  have hbel:Below w.heap.size w ((putRow (fun(b:UInt8)=>it .u8 (b.toNat:Int)) (w.alloc (cl Lib.zeros24 201)) w.heap.size 0 dk).drewN k):=by
   have hb1:Below w.heap.size w (w.alloc (cl Lib.zeros24 201)):=(qf _ _).alloc (zh _) _;refine zda (hb1.trans ⟨rfl,rfl,rfl,?_,?_⟩);·simp[putRow,mapBlock]
   ·intro i hi;simp only[putRow,mapBlock,zby];rw[zO om]
  clear htab HF0;go_wp2;go_ret;exact⟨rfl,hbel⟩
theorem zjZ(u:Nat)(b:u<18446744073709551616)(w:H)(a:Lib.TabIs pg w "internal/strconv.uint64pow10" .u64 Lib.pow10Tab):
 Calls pg 135 #[it .u64 (u:Nat),it Xb 10] w fun e w'=>e=Xa (gS ⟨(Lib.decDigits u).toArray⟩)/\Below w.heap.size w w':=by
 go_enter func135,ntmps135
 go_wp2_with fail
 refine(zia u b _ a).mono ?_;rintro e w' ⟨rfl,a⟩;go_wp2;go_ret;exact⟨rfl,a⟩
end

section
open Go.RowKit
variable {A w w':H}{B b c d e g k n:Nat}{a xs:List Nat}{f:List UInt8}{pt:Nat->Addr}
theorem Tryz.sizeBuilder:(Tryz.prog.info? 124).map (·.size)=E 2:=by kernel_rfl
theorem Tryz.info5:(Tryz.prog.info? 5).map (fun i=>(i.zero,i.size,i.bytes))=E (E (it .u8 0),1,1):=by kernel_rfl
theorem Tryz.liesBuilder:Go.liesAt pg Tryz.prog.depth 124 (2/Tryz.prog.cellsOf 124) 0 124 1=true:=kr
theorem zgg(b:Nat)(w:H)(a:w.cell? (Xd b 0 O)=E (pn (E (Xd b 0 O)))):
 Calls pg 102 #[pn (E (Xd b 0 O))] w fun e w'=>e=Xa (tp #[])/\w'=w:=by
 obtain⟨_,a,_⟩:=Option.map_eq_some_iff.1 Tryz.sizeBuilder;go_enter func102,ntmps102
 go_wp2;rw[Lib.run_neq_ptr_same w _ underlying122 a];go_wp2;go_end0
 exact⟨rfl,rfl⟩
theorem zfN(b:Nat)(w:H)(a:w.cell? (Xd b 0 O)=E (pn O))(c:w.shape? b=E (124,2))(d:w.frozen? (Xd b 0 O)=false):
 Calls pg 102 #[pn (E (Xd b 0 O))] w fun e w'=>e=Xa (tp #[])/\w'=w.setCell (Xd b 0 O) (pn (E (Xd b 0 O))):=by
 obtain⟨_,a,d⟩:=Option.map_eq_some_iff.1 Tryz.sizeBuilder;go_enter func102,ntmps102
 go_wp2;rw[Lib.run_to_unsafe w ⟨b,0,O⟩ underlying122 underlying281 a (by rw[d];decide) c (Nat.zero_lt_succ 1)];simp only[Result.andThen];rw[Oper.upon_value];go_wp2;rw[run_callFunc_extern func190 kr kr kr (e:=Extern.AbiNoEscape.same) kr];rw[Lib.run_noEscape];simp only[Result.andThen];rw[Oper.upon_value];go_wp2;rw[Lib.run_from_unsafe w ⟨b,0,O⟩ underlying281 underlying122 a c Tryz.liesBuilder];simp only[Result.andThen];rw[Oper.upon_value];go_wp2;go_end0
 exact⟨rfl,rfl⟩
theorem zmv(B b:Nat)(a:List Value)(w:H)(h:Lib.IsBuilderF 124 5 B b a w):
 Calls pg 102 #[pn (E (Xd b 0 O))] w fun e w'=>e=Xa (tp #[])/\(Lib.BuilderAtF 124 5 B b (pn (E (Xd b 0 O))) a w'/\Below B w w'/\Lib.OthersKept 5 (E b) w w'):=by
 rcases h with h|h
 ·refine(zfN b w h.cell0 h.shape h.frozen0).mono ?_;rintro e w' ⟨rfl,rfl⟩;exact⟨rfl,h.used _,(qf B w).setCell (p:=(Xd b 0 O)) h.1 _,(Lib.OthersKept.refl _ _ w).setCell (Xd b 0 O) rfl _⟩
 ·refine(zgg b w h.cell0).mono ?_;rintro e w' ⟨rfl,rfl⟩;exact⟨rfl,h,qf B _,Lib.OthersKept.refl _ _ _⟩
theorem zeU(B b:Nat)(a:List Value)(s:ByteArray)(w:H)(h:Lib.IsBuilderF 124 5 B b a w)(d:a.length+s.size<=140737488355328)(c:B<=w.heap.size):
 Calls pg 53 #[pn (E (Xd b 0 O)),gS s] w fun e w'=>e=Xa (tp #[it Xb s.size,.nilIface])/\(Lib.BuilderAtF 124 5 B b (pn (E (Xd b 0 O))) (a++Lib.strCells s) w'/\Below B w w'/\Lib.OthersKept 5 (E b) w w'):=by
 obtain⟨t,i,l,m,r⟩:=Zn Tryz.info5;go_enter func53,ntmps53
 go_wp2_with fail
 refine(zmv B b a _ h).mono ?_;rintro e c ⟨rfl,f,g,o⟩;obtain⟨k,v,d,j,q⟩:=f;have f:c.cell? (Xd b 0 O)=E (pn (E (Xd b 0 O))):=by rw[zdn d];rfl
 have f:c.cell? (Xd b 1 O)=E v:=by rw[zdn d];rfl
 go_wp2_with (at_builtin;refine Lib.wpList_append_own_stringF _ rfl _ _ 65 9 rfl B 5 t underlying65 underlying9 i l m r _ _ _ rfl j s rfl ?c3 ?c4 ?c5 ?_)
 case c3=>unfold maxLen;omega
 case c4=>omega
 case c5=>have:=g.size;omega
 intro r f l i _;have m:b<c.heap.size:=by
  rcases Qc b c.heap.size with c|c
  ·exact c
  ·simp[zbf c]at d
 have c:f.heap[b]? =E (cl #[pn (E (Xd b 0 O)),v] 124 (0,0)):=by
  rw[i.block b m (fun e=>q e.symm)];exact d
 have d:f.cell? (Xd b 0 O)=E (pn (E (Xd b 0 O))):=by rw[zdn c];rfl
 have d:f.cell? (Xd b 1 O)=E v:=by rw[zdn c];rfl
 have d:=Lib.frozen_of_heap c 1;obtain⟨f,m,d,rfl⟩:∃f m d,r=V f m d:=by
  rcases l.2 with ⟨f,_⟩|⟨_,d,_,_,f,_⟩
  ·exact⟨_,_,_,f⟩
  ·exact⟨_,_,_,f⟩
 go_wp2;go_ret2;refine⟨rfl,?_,?_,(o.grown i (Lib.ownsRowF_kind j)).setCell (Xd b 1 O) rfl _⟩;·exact Lib.BuilderAtF.put (T:=124) (e:=5) k c (bs':=a++Lib.strCells s) (by simpa[Lib.strCells_length]using l) dc
 ·exact(g.grown i (by have:=g.size;omega) (fun c a=>(j.lt c a).1)).setCell (p:=(Xd b 1 O)) k _
def zbR:List Nat->Nat
 |[]=>0
 |d::ds=>d+1000000000*zbR ds
theorem zmw(a b:List Nat):zbR (a++b)=zbR a+1000000000^a.length*zbR b:=by
 induction a with
 |nil=>simp[zbR]
 |cons d c d=>
  simp only[ZZ,zbR,qi,d,Zv,Zs];rw[Z5 (1000000000^c.length) 1000000000,Zt];omega
theorem zqp{L K:Nat}(h1:1000000000^L<=n)(h2:n<4294967296^K):L<K*2:=by
 rcases Qc L (K*2)with h|h
 ·exact h
 ·exfalso
  have a:1000000000^(K*2)<=1000000000^L:=ZD om h;have a:(1000000000:Nat)^(K*2)=(1000000000^2)^K:=by rw[Z5,zew]
  have a:(4294967296:Nat)^K<=(1000000000^2)^K:=Nat.pow_le_pow_left dc K;omega
theorem zny(w:H)(v:Value)(n K:Nat)(hv:NatV w v n)(M:n≠0)(hn:n<4294967296^K)(hK:K<=100000000):
 Calls pg 134 #[v] w fun e w'=>∃x a,e=Xa x/\U32s w' x a/\(∀p∈a,p<1000000000)/\zbR a=n/\(∀k,a.length=k+1->a.getD k 0≠0)/\a.length<=K*2/\Below w.heap.size w w':=by
 obtain⟨m,z,hd,ht,aa,_⟩:=J9 hv hn;obtain⟨i0,o,aL,aM,aN⟩:=Zn Xr;have ai:m≠ []:=fun e=>M (by rw[<-aa,e];rfl)
 go_enter func134,ntmps134
 go_wp2_with fail
 refine(zfG _ _ m z om).mono ?_;rintro e t ⟨x,rfl,⟨_,D,rfl,_,hr⟩,a0⟩;obtain⟨g,rfl,hg,aq,aE,aj⟩:=hr ai;go_wp2;go_loopg [3,4] n (fun k pv lv wr=>∃(b a:List Nat) (j:Option Addr) (l:Nat),pv=V j a.length l/\lv=V (E (Xd g 0 O)) b.length D/\b.length<=m.length/\Row wr g 0 b/\zcj wr g 0 m.length/\Dig b/\Top b/\Hid (val b=k)/\g<wr.heap.size/\t.heap.size<=wr.heap.size/\wr.ownsRow t.heap.size 229 1 (V j a.length l) a.length (a.map encD)/\
  (∀p∈a,p<1000000000)/\Hid (zbR a+1000000000^a.length*k=n)/\Hid (k=0->∀B,a.length=B+1->a.getD B 0≠0)/\a.length<=K*2/\Hid (a≠ []\/k=n)/\Below w.heap.size w wr)
 case atStart=>exact⟨m,[],O,0,rfl,rfl,zh _,aE,aj,hd,ht,aa,aq,zh _,zaf _ _ _ _,fun p R=>by simp at R,by simp[Hid,zbR],fun h=>absurd h M,qo _,Or.inr rfl,a0⟩
 case round=>
  obtain⟨b,a,j,l,rfl,rfl,_,aF,a3,af,aI,a8,_,_,P,a4,S,ay,aC,N,a1⟩:=hrel;by_cases q:gk=0
  ·have J:=aI.zero.1 (by rw[a8.out];exact q);subst J;have C:=zf q;go_wp2;go_ret;have a5:=S.out;rw[C.out,Ql,qV]at a5;have aD:a≠ []:=by
    rcases N.out with h|h
    ·exact h
    ·exact absurd (C.out.symm.trans h).symm M
   refine⟨_,a,rfl,?_,a4,a5,ay.out C.out,aC,a1⟩;have aK:V j a.length l≠V O 0 0:=by
    intro e;simp only[qp]at e;exact aD (Qk.1 e.2.1)
   obtain⟨g2,_,A,aA,_,an,T,_⟩:=owns_parts P aK;simp only[qp]at A;obtain⟨rfl,_,rfl⟩:=A;exact⟨_,_,rfl,aA,fun _=>⟨g2,0,rfl,an,T⟩⟩
  ·have U:=a8.out;have J:b≠ []:=fun e=>q (by rw[<-U,e];rfl)
   have aO:=ZC.2 J;have aP:a.length<K*2:=by
    refine zqp (n:=n) ?_ hn;have Z:=S.out;have F:1000000000^a.length*1<=1000000000^a.length*gk:=Zr _ (Z3 q);omega
   go_wp2_with fail
   refine(zfF _ g 0 D 1000000000 b om om om om aF (fun s o=>a3 s om) af).mono ?_;rintro e f ⟨c,r,rfl,a6,_,ah,T,d,a9⟩;have Q:f.ownsRow t.heap.size 229 1 (V j a.length l) a.length (a.map encD):=by
    refine P.kept (row:=E g) ⟨d.os,d.tape,d.output,jm d.size.symm,fun k _ N=>d.block k (fun e=>N (by rw[e]))⟩ ?_;right
    intro e;have:=P.lt g e;omega
   have ak:=d.free a3;have I:=a1.trans (d.below hg);have Y:=zf (show f.heap.size=wr.heap.size from d.size);go_wp2_with (at_builtin;refine zcU _ rfl _ _ 82 rfl t.heap.size 229 i0 (it .u32 0) 1 4 underlying82 o aL aM aN rfl dc (V j a.length l) a.length (a.map encD) rfl (Q.alloc _) ⟨f.heap.size,0,O⟩ 1 1 [encD r] rfl rfl ?c1 ?c2 mo om (by have:=Y.out;simp;omega) ?_)
   case c1=>exact JC _ _ _
   case c2=>intro aT z;simp at z;subst z;rfl
   intro v3 i y L aB;have aJ:v3≠V O 0 0:=fun e=>aB e
   have e2:a.map encD ++ [encD r]=(a ++ [r]).map encD:=sp;rw[e2]at y;obtain⟨_,ad,A,_,_,_,_,_⟩:=owns_parts y aJ;subst A;have aQ:=Y.out;have au:E g≠Value.ownBlock (V j a.length l):=by
    intro e;have:=Q.lt g e.symm;omega
   have a2:i.heap[g]? =f.heap[g]?:=by
    rw[L.block g so au];exact qH _ _ _ om
   have a7:Row i g 0 c:=fun s o=>(Zj (w:=f) a2).trans (T s o)
   have al:zcj i g 0 m.length:=fun s o=>(qw (w:=f) a2).trans (ak s o)
   have ae:Below w.heap.size w i:=(I.alloc I.size _).grown L (by have:=I.size;simp;omega) (fun k h=>by have:=Q.lt k h;have:=a0.size;omega);have aG:=L.size;have aR:f.heap.size<i.heap.size:=by simp at aG;omega
   have ar:g<i.heap.size:=om;have aH:t.heap.size<=i.heap.size:=om;have u:(a ++ [r]).length=a.length+1:=sp;have aw:gk/1000000000=val c:=by rw[<-U,a9,Nat.mul_add_div om,jH a6,qV]
   have ax:gk%1000000000=r:=by rw[<-U,a9,Nat.mul_add_mod,Jk a6]
   have ab:=zf aw;have W:=zf ax;go_wp2_with fail
   refine(trim_any i g 0 D b.length c om om om a7).mono ?_;rintro e w4 ⟨rfl,rfl⟩;have aS:=zgu c b.length;have az:(c.take (Jr c b.length)).length=Jr c b.length:=by rw[zX];omega
   have X:=zf az;go_wp2;go_roundg (gk/1000000000)
   case measure=>exact Nat.div_lt_self (Z3 q) om
   case rel=>
    rw[<-u]at y;refine⟨c.take (Jr c b.length),a ++ [r],_,ad,by rw[u],by rw[X.out],by rw[X.out];omega,a7.take _,al,ah.take _,zg8 _ _ om,?_,ar,aH,y,?_,?_,?_,om,Or.inl sp,ae⟩;·rw[Hid,val_trimL _ _ om,zP om,ab.out]
    ·intro p R;rcases zU.1 R with h|h
     ·exact a4 p h
     ·simp at h;omega
    ·have Z:=S.out;have F:=Jz gk 1000000000;rw[Hid,zmw,u,Zv];simp only[zbR,Ql,qV];rw[Zt,<-W.out,zb3,<-Zs,Nat.mod_add_div];exact Z
    ·intro hz B hj;have av:B=a.length:=by rw[u]at hj;omega
     subst av;have F:=Jz gk 1000000000;rw[hz]at F;have h3:r=gk:=by rw[<-W.out];omega
     simp;omega
theorem zos(K:Nat)(hK:K+K<=1073741822)(hO:zfj (K+K))(w:H)(x y:Value)(p r:Int)(q s:Nat)(h:Qa w x p q)(k:Qa w y r s)(g:r≠0)(a:p.natAbs<4294967296^K)(hr:r.natAbs<4294967296^K)(hq:q<4294967296^K)(hs:s<4294967296^K):
 Calls pg 118 #[x,y] w fun e w'=>∃t,e=Xa t/\Qa w' t ((p*s*r.sign)/(Nat.gcd (p*s*r.sign).natAbs (q*r.natAbs):Int)) ((q*r.natAbs)/Nat.gcd (p*s*r.sign).natAbs (q*r.natAbs))/\Below w.heap.size w w':=by
 have c:=h;have k0:=k;obtain⟨I,D,M,J,F,N,L,rfl,_,_,_,f,_⟩:=h.parts;obtain⟨l,A,C,B,z,S,Q,rfl,d,b,_,_,_⟩:=k.parts;have T:zy w (ag #[G l,V A C B]) r:=⟨l,_,rfl,d,b⟩;have m:QQ (((w.alloc (cl #[G I,V D M J,V F N L] 87)).alloc (cl #[G l,V A C B,V z S Q] 87)).alloc (cl #[G false,V O 0 0,V O 0 0] 87)) w.heap.size (G I) (V D M J) (V F N L):=((QQ.new _ _ _ _ _).alloc _).alloc _;have o:QQ (((w.alloc (cl #[G I,V D M J,V F N L] 87)).alloc (cl #[G l,V A C B,V z S Q] 87)).alloc (cl #[G false,V O 0 0,V O 0 0] 87)) (w.heap.size+1) (G l) (V A C B) (V z S Q):=(QQ.new1 _ _ _ _ _ _).alloc _;have R:QQ (((w.alloc (cl #[G I,V D M J,V F N L] 87)).alloc (cl #[G l,V A C B,V z S Q] 87)).alloc (cl #[G false,V O 0 0,V O 0 0] 87)) (w.heap.size+1+1) (G false) (V O 0 0) (V O 0 0):=QQ.new2 _ _ _ _ _ _ _;have u:=zbt w (cl #[G I,V D M J,V F N L] 87) (cl #[G l,V A C B,V z S Q] 87) (cl #[G false,V O 0 0,V O 0 0] 87);have hZ:(p*s*r.sign).natAbs<4294967296^(K+K):=by
  have b:=znl a hs;have d:=Int.natAbs_sign_of_ne_zero g;rw[zbv,d,jM];exact b
 have hN:=ziZ hq hr;have aG:q*r.natAbs≠0:=Nat.pos_iff_ne_zero.1 (QE f om);go_enter func118,ntmps118
 go_wp2_with fail
 refine(znk _ _ _ p r q s K K om (((c.alloc _).alloc _).alloc _) (((k0.alloc _).alloc _).alloc _) a hs).mono ?_;rintro e b ⟨_,rfl,d,a⟩;obtain⟨j,f,i,g,rfl,_,_⟩:=d.parts;have P:=m.below a;have m:=o.below a;have o:=R.below a;have U:=(((c.alloc _).alloc _).alloc _).below a;have c:=(((k0.alloc _).alloc _).alloc _).below a;have X:=(((T.alloc _).alloc _).alloc _).below a;have R:=u.trans (a.mono u.size);have u:=P.alloc (cl #[G j,V f i g] 85);have P:=m.alloc (cl #[G j,V f i g] 85);have T:=o.alloc (cl #[G j,V f i g] 85);have W:=U.alloc (cl #[G j,V f i g] 85);have U:=c.alloc (cl #[G j,V f i g] 85);have Y:=X.alloc (cl #[G j,V f i g] 85);have X:=d.alloc (cl #[G j,V f i g] 85);have d:Zh (b.alloc (cl #[G j,V f i g] 85)) b.heap.size (G j) (V f i g):=Xl _ _ _ _;have c:Below w.heap.size w (b.alloc (cl #[G j,V f i g] 85)):=R.alloc R.size _;have a:=o.2.2.2.2.2.2;have a:=m;obtain⟨j0,j1,j2,j3,j4,j5,j6⟩:=a;go_wp2_with fail
 refine(zoj _ _ r s U).mono ?_;rintro e wS ⟨rfl,a⟩;have aH:=u.below a;have aI:=P.below a;have aJ:=T.below a;have aK:=W.below a;have aM:=Y.below a;have aL:=X.below a;have au:=d.below a;have a1:=c.trans (a.mono c.size);by_cases a:r<0
 ·have P:=Qi a;have a0:p*s*r.sign=-(p*s):=by rw[P,zbc,zet]
  have aF:=zf a0;have a:=au;obtain⟨T,o,W,X,Y⟩:=a;rw[P];have aN:=zf P;go_wp2_with fail
  refine(zau _ _ (p*s) aL).mono ?_;rintro e wT ⟨_,rfl,Z,m⟩;obtain⟨a,c,u,d,rfl,_,_⟩:=Z.parts;have a5:=aH.below m;have a6:=aI.below m;have a7:=aJ.below m;have a8:=aK.below m;have a9:=aM.below m;have U:=au.below m;have a4:=a1.trans (m.mono a1.size);obtain⟨T,o,W,X,Y⟩:=U;have U:(wT.setCell (Xd b.heap.size 0 O) (G a)).cell? (Xd b.heap.size 1 O)=E (V f i g):=by rw[zA _ _ _ _ sp];exact o
  have m:QQ ((wT.setCell (Xd b.heap.size 0 O) (G a)).setCell (Xd b.heap.size 1 O) (V c u d)) w.heap.size (G I) (V D M J) (V F N L):=(a5.far om).far om;have o:QQ ((wT.setCell (Xd b.heap.size 0 O) (G a)).setCell (Xd b.heap.size 1 O) (V c u d)) (w.heap.size+1) (G l) (V A C B) (V z S Q):=(a6.far om).far om;have aj:QQ ((wT.setCell (Xd b.heap.size 0 O) (G a)).setCell (Xd b.heap.size 1 O) (V c u d)) (w.heap.size+1+1) (G false) (V O 0 0) (V O 0 0):=(a7.far om).far om;have aw:Qa ((wT.setCell (Xd b.heap.size 0 O) (G a)).setCell (Xd b.heap.size 1 O) (V c u d)) (ag #[G I,V D M J,V F N L]) p q:=(a8.setCell T sp _).setCell U sp _;have aE:zy ((wT.setCell (Xd b.heap.size 0 O) (G a)).setCell (Xd b.heap.size 1 O) (V c u d)) (ag #[G l,V A C B]) r:=(a9.setCell T sp _).setCell U sp _;have aD:zy ((wT.setCell (Xd b.heap.size 0 O) (G a)).setCell (Xd b.heap.size 1 O) (V c u d)) (ag #[G a,V c u d]) (p*s*r.sign):=by rw[aF.out];exact(Z.setCell T sp _).setCell U sp _
  have z:Zh ((wT.setCell (Xd b.heap.size 0 O) (G a)).setCell (Xd b.heap.size 1 O) (V c u d)) b.heap.size (G a) (V c u d):=by
   refine⟨?_,zN _ _ _ U,by simpa using W,by simpa using X,by simpa using Y⟩;rw[zA _ _ _ _ sp];exact zN _ _ _ T
  have U:Below w.heap.size w ((wT.setCell (Xd b.heap.size 0 O) (G a)).setCell (Xd b.heap.size 1 O) (V c u d)):=(a4.setCell so _).setCell so _;have av:=z;obtain⟨i0,i1,i2,i3,i4⟩:=av;have ab:=m;obtain⟨u0,u1,u2,u3,u4,u5,u6⟩:=ab;have ai:=o;obtain⟨v0,v1,v2,v3,v4,v5,v6⟩:=ai;go_wp2;go_region_held (fun w'=>w'.cell? (Xd w.heap.size 0 O)=E (G I)/\w'.cell? (Xd w.heap.size 1 O)=E (V D M J)/\w'.cell? (Xd w.heap.size 2 O)=E (V F N L)/\w'.cell? ⟨w.heap.size+1,0,O⟩=E (G l)/\w'.cell? ⟨w.heap.size+1,1,O⟩=E (V A C B)/\w'.cell? (Xd b.heap.size 0 O)=E (G a)/\w'.cell? (Xd b.heap.size 1 O)=E (V c u d)) (first|(refine⟨?_,?_,?_,?_,?_,?_,?_⟩<;>(rw[far,far,far]<;>first|assumption|omega))|go_keep) (first|(go_at_call 71;refine(zie (K+K) hK hO _ _ _ (p*s*r.sign) (q*r.natAbs) (((aD.drewN 1).below a).below c |>.below d) a5 aG hZ hN).mono ?_;rintro e wE ⟨tE,rfl,a6,u⟩;obtain⟨b2,a2,l2,Z,a3,l3,k3,rfl,ax,ay,az,aB,aC⟩:=a6.parts;have a8:=(((m.drew.below a).below c).below d).below u;obtain⟨x0,x1,x2,x3,x4,x5,x6⟩:=a8;have ae:=(((o.drew.below a).below c).below d).below u;obtain⟨y0,y1,y2,y3,y4,y5,y6⟩:=ae;have an:=(((z.drew.below a).below c).below d).below u;obtain⟨z0,z1,z2,z3,z4⟩:=an;have ak:=(((aj.drew.below a).below c).below d).below u;obtain⟨Q,S,T,f0,f1,f2,g0⟩:=ak)|(go_at_call 170;refine(times_any _ _ _ q r.natAbs K K (R.below c) a4 hq hr om).mono ?_;rintro e wD ⟨tD,rfl,a5,d⟩;have a9:=((m.drew.below a).below c).below d;obtain⟨m0,m1,m2,m3,m4,m5,m6⟩:=a9;have af:=((o.drew.below a).below c).below d;obtain⟨n0,aP,n2,aQ,aR,n5,n6⟩:=af;have ap:=((z.drew.below a).below c).below d;obtain⟨o0,o1,o2,o3,o4⟩:=ap)|(go_at_call 129;refine(zfk _ _ r ((aE.drewN 1).below a)).mono ?_;rintro e wC ⟨tC,rfl,a4,c⟩;have aa:=(m.drew.below a).below c;obtain⟨q0,q1,q2,q3,q4,q5,q6⟩:=aa;have ah:=(o.drew.below a).below c;obtain⟨r0,r1,r2,aS,r4,r5,r6⟩:=ah;have aq:=(z.drew.below a).below c;obtain⟨s0,s1,s2,s3,s4⟩:=aq)|(go_at_call 206;refine(zic _ _ p q (by exact aw.drew)).mono ?_;rintro e wB ⟨tB,rfl,R,a⟩;have a7:=m.drew.below a;obtain⟨j0,j1,j2,j3,j4,j5,j6⟩:=a7;have ad:=o.drew.below a;obtain⟨t0,t1,t2,t3,t4,t5,t6⟩:=ad;have al:=z.drew.below a;obtain⟨k0,k1,Z,k3,k4⟩:=al))
  have W:=U.trans ((ze1 a).mono U.size);have X:=W.trans (c.mono W.size);have Y:=X.trans (d.mono X.size);have ar:=Y.trans (u.mono Y.size);go_wp2;exact zH (v:=ag #[G b2,V a2 l2 Z,V a3 l3 k3]) (by simp[results,results118,go_sem,Q,S,T]) rfl ⟨_,rfl,zbe ax ay az aB aC Q S T,
   ((ar.setCell so _).setCell so _).setCell so _⟩
 ·have aO:0<r:=om;have P:=Qs aO;have a0:p*s*r.sign=p*s:=by rw[P,zet]
  have aF:=zf a0;have m:=aH;have o:=aI;have aj:=aJ;have aw:=aK;have aE:=aM;have aD:zy wS (ag #[G j,V f i g]) (p*s*r.sign):=by rw[a0];exact aL
  have z:=au;have U:=a1;rw[P];have aN:=zf P;have av:=z;obtain⟨i0,i1,i2,i3,i4⟩:=av;have ab:=m;obtain⟨u0,u1,u2,u3,u4,u5,u6⟩:=ab;have ai:=o;obtain⟨v0,v1,v2,v3,v4,v5,v6⟩:=ai;go_wp2;go_region_held (fun w'=>w'.cell? (Xd w.heap.size 0 O)=E (G I)/\w'.cell? (Xd w.heap.size 1 O)=E (V D M J)/\w'.cell? (Xd w.heap.size 2 O)=E (V F N L)/\w'.cell? ⟨w.heap.size+1,0,O⟩=E (G l)/\w'.cell? ⟨w.heap.size+1,1,O⟩=E (V A C B)/\w'.cell? (Xd b.heap.size 0 O)=E (G j)/\w'.cell? (Xd b.heap.size 1 O)=E (V f i g)) (first|(refine⟨?_,?_,?_,?_,?_,?_,?_⟩<;>(rw[far,far,far]<;>first|assumption|omega))|go_keep) (first|(go_at_call 71;refine(zie (K+K) hK hO _ _ _ (p*s*r.sign) (q*r.natAbs) (((aD.drewN 1).below a).below c |>.below d) a5 aG hZ hN).mono ?_;rintro e wE ⟨tE,rfl,a6,u⟩;obtain⟨b2,a2,l2,Z,a3,l3,k3,rfl,ax,ay,az,aB,aC⟩:=a6.parts;have a8:=(((m.drew.below a).below c).below d).below u;obtain⟨x0,x1,x2,x3,x4,x5,x6⟩:=a8;have ae:=(((o.drew.below a).below c).below d).below u;obtain⟨y0,y1,y2,y3,y4,y5,y6⟩:=ae;have an:=(((z.drew.below a).below c).below d).below u;obtain⟨z0,z1,z2,z3,z4⟩:=an;have ak:=(((aj.drew.below a).below c).below d).below u;obtain⟨Q,S,T,f0,f1,f2,g0⟩:=ak)|(go_at_call 170;refine(times_any _ _ _ q r.natAbs K K (R.below c) a4 hq hr om).mono ?_;rintro e wD ⟨tD,rfl,a5,d⟩;have a9:=((m.drew.below a).below c).below d;obtain⟨m0,m1,m2,m3,m4,m5,m6⟩:=a9;have af:=((o.drew.below a).below c).below d;obtain⟨n0,aP,n2,aQ,aR,n5,n6⟩:=af;have ap:=((z.drew.below a).below c).below d;obtain⟨o0,o1,o2,o3,o4⟩:=ap)|(go_at_call 129;refine(zfk _ _ r ((aE.drewN 1).below a)).mono ?_;rintro e wC ⟨tC,rfl,a4,c⟩;have aa:=(m.drew.below a).below c;obtain⟨q0,q1,q2,q3,q4,q5,q6⟩:=aa;have ah:=(o.drew.below a).below c;obtain⟨r0,r1,r2,aS,r4,r5,r6⟩:=ah;have aq:=(z.drew.below a).below c;obtain⟨s0,s1,s2,s3,s4⟩:=aq)|(go_at_call 206;refine(zic _ _ p q (by exact aw.drew)).mono ?_;rintro e wB ⟨tB,rfl,R,a⟩;have a7:=m.drew.below a;obtain⟨j0,j1,j2,j3,j4,j5,j6⟩:=a7;have ad:=o.drew.below a;obtain⟨t0,t1,t2,t3,t4,t5,t6⟩:=ad;have al:=z.drew.below a;obtain⟨k0,k1,Z,k3,k4⟩:=al))
  have W:=U.trans ((ze1 a).mono U.size);have X:=W.trans (c.mono W.size);have Y:=X.trans (d.mono X.size);have ar:=Y.trans (u.mono Y.size);go_wp2;exact zH (v:=ag #[G b2,V a2 l2 Z,V a3 l3 k3]) (by simp[results,results118,go_sem,Q,S,T]) rfl ⟨_,rfl,zbe ax ay az aB aC Q S T,
   ((ar.setCell so _).setCell so _).setCell so _⟩
def Tab (w:H):Prop:=Lib.TabIs pg w "internal/strconv.uint64pow10" .u64 Lib.pow10Tab
theorem Tab.below(h:Tab w)(hb:Below w.heap.size w w'):Tab w':=by
 unfold Tab Lib.TabIs World.var? at *;cases hg:Tryz.prog.globalNamed "internal/strconv.uint64pow10" with
 |none=>rw[hg]at h;simp at h
 |some g=>
  rw[hg]at h;simp only[Option.bind_some]at h⊢;have b:g<w.heap.size:=by
   rcases Qc g w.heap.size with a|a
   ·exact a
   ·rw[zbf a]at h;simp at h
  rw[hb.block g b];exact h
theorem zi5{o:Obj}(h:w.heap[g]? =E o):g<w.heap.size:=by
 rcases Qc g w.heap.size with a|a
 ·exact a
 ·rw[zbf a]at h;simp at h
theorem zfr{T:Nat}{p:Value}{a:List Value}(h:Lib.BuilderAtF T e B b p a w)(hb:Below w.heap.size w w'):Lib.BuilderAtF T e B b p a w':=by
 obtain⟨d,v,c,⟨f,a⟩,g⟩:=h;refine⟨d,v,(hb.block b (zi5 c)).trans c,⟨f,?_⟩,g⟩;rcases a with a|⟨g,d,f,i,l,j,c,k⟩
 ·exact Or.inl a
 ·exact Or.inr ⟨g,d,f,i,l,j,(hb.block g (zi5 c)).trans c,k⟩
theorem zfs{T:Nat}{a:List Value}(h:Lib.IsBuilderF T e B b a w)(hb:Below w.heap.size w w'):Lib.IsBuilderF T e B b a w':=by
 rcases h with h|h
 ·exact Or.inl (zfr h hb)
 ·exact Or.inr (zfr h hb)
theorem zdo(l:List UInt8):(ByteArray.mk l.toArray).size=l.length:=by simp[ByteArray.size]
theorem JW(a b:List UInt8):(ByteArray.mk a.toArray)++(ByteArray.mk b.toArray)=ByteArray.mk (a++b).toArray:=by
 apply ByteArray.ext;simp
theorem zbS(k:Nat):∀n,n<10^k->0<k->(Lib.decDigits n).length<=k:=by
 induction k with
 |zero=>intro n _ h;omega
 |succ k d=>
  intro n b _;by_cases h:n<10
  ·rw[Lib.decDigits,dif_pos h];simp
  ·have c:0<k:=by
    rcases Qd k with a|a
    ·subst a;simp at b;omega
    ·exact a
   have a:=d (n/10) (by rw[Zv]at b;omega) c;rw[Lib.decDigits,dif_neg h];simp;omega
theorem zrH(n:Nat):0<(Lib.decDigits n).length:=by
 rw[Lib.decDigits];split<;>simp
def padL:Nat->Nat->List UInt8
 |0,_=> []
 |k+1,r=>padL k (r/10) ++ [UInt8.ofNat (48+r%10)]
theorem zrI(q:Nat)(c:q≠0)(k:Nat):∀r,r<10^k->Lib.decDigits (q*10^k+r)=Lib.decDigits q++padL k r:=by
 induction k with
 |zero=>
  intro r a;have b:r=0:=by simpa using a
  subst b;simp[padL]
 |succ k b=>
  intro r a;have d:r/10<10^k:=by rw[Zv]at a;omega
  have a:=b (r/10) d;clear b;have b:0<10^k:=zbb om;have b:10^k<=q*10^k:=Jd _ (Z3 c);have e:q*10^(k+1)=q*10^k*10:=by rw[Zv,Zt]
  rw[e];generalize q*10^k=X at *;generalize 10^k=Y at *;rw[Lib.decDigits,dif_neg om,show(X*10+r)/10=X+r/10 by omega,show(X*10+r)%10=r%10 by omega,a,padL,Zl]
theorem zot(k:Nat):padL k 0=List.replicate k 48:=by
 induction k with
 |zero=>rfl
 |succ k a=>rw[padL,Nat.zero_div,a,List.replicate_succ'];rfl
theorem zrJ(k:Nat):∀r,0<k->r<10^k->padL k r=List.replicate (k-(Lib.decDigits r).length) 48++Lib.decDigits r:=by
 induction k with
 |zero=>intro r h;omega
 |succ k d=>
  intro r _ b;by_cases h:r<10
  ·rw[Lib.decDigits,dif_pos h,padL,show r/10=0 by omega,zot,show r%10=r by omega];simp
  ·have c:0<k:=by
    rcases Qd k with a|a
    ·subst a;simp at b;omega
    ·exact a
   have a:r/10<10^k:=by rw[Zv]at b;omega
   rw[padL,d (r/10) c a,Lib.decDigits.eq_1 r,dif_neg h,Zl,zM];have e:k+1-((Lib.decDigits (r/10)).length + [UInt8.ofNat (48+r%10)].length)=k-(Lib.decDigits (r/10)).length:=sp;rw[e]
def JD (l:List Nat):List UInt8:=if l= []then []else Lib.decDigits (zbR l)
theorem zou(d:Nat):JD [d]=Lib.decDigits d:=by simp[JD,zbR]
theorem znz(d:Nat)(l:List Nat)(a:d<1000000000)(c:l≠ [])(b:zbR l≠0):JD (d::l)=JD l++(List.replicate (9-(Lib.decDigits d).length) 48++Lib.decDigits d):=by
 have a:=zrI (zbR l) b 9 d om;have b:=zrJ 9 d om om;rw[JD,zO sp,JD,zO c,<-b,<-a,zbR,Nat.add_comm,Z5]
theorem zqq:∀(l:List Nat) (k:Nat),l.length=k+1->l.getD k 0≠0->zbR l≠0:=by
 intro l;induction l with
 |nil=>intro k a;simp at a
 |cons c l c=>
  intro k a b;cases k with
  |zero=>simp at b;simp[zbR];omega
  |succ k=>have:=c k (by simpa using a) (by simpa using b);simp only[zbR];omega
theorem zov(b:∀k,a.length=k+1->a.getD k 0≠0)(k:Nat)(c:k<a.length):zbR (a.drop k)≠0:=by
 obtain⟨m,hm⟩:∃m,a.length=m+1:=⟨a.length-1,om⟩;refine zqq (a.drop k) (m-k) so ?_;have:=b m hm;rw[zk]at this⊢;rw[Jo,show k+(m-k)=m by omega];exact this
theorem zkt(b:k<a.length):a.drop k=a.getD k 0::a.drop (k+1):=by
 rw[jt b];simp[b]
theorem zi6{a:List Nat}(d:∀p∈a,p<1000000000)(c:∀k,a.length=k+1->a.getD k 0≠0)(k:Nat)(b:k+1<a.length):
 JD (a.drop k)=JD (a.drop (k+1))++(List.replicate (9-(Lib.decDigits (a.getD k 0)).length) 48++Lib.decDigits (a.getD k 0)):=by
 have hm:a.getD k 0<1000000000:=by
  rw[zk,zg om];exact d _ (zJ _)
 rw[zkt om];exact znz _ _ hm (by intro e;have:=qm List.length e;simp at this;omega) (zov c _ b)
theorem zi7(k:Nat)(b:k+1=a.length):JD (a.drop k)=Lib.decDigits (a.getD k 0)/\JD (a.drop (k+1))= []:=by
 rw[zkt om,QP om];exact⟨zou _,rfl⟩
theorem zlI{a:List Nat}(c:∀p∈a,p<1000000000)(k:Nat)(b:k<a.length):a.getD k 0<1000000000:=by
 rw[zk,zg b];exact c _ (zJ _)
theorem zgY(c:Nat):Lib.repeatL [48] c=List.replicate c 48:=by
 induction c with
 |zero=>rfl
 |succ c a=>rw[Lib.repeatL,a,List.replicate_succ];rfl
theorem zdd(a b:List UInt8):Lib.byteCells a++Lib.strCells ⟨b.toArray⟩=Lib.byteCells (a++b):=by simp[Lib.byteCells,Lib.strCells]
theorem zow{a:List Nat}(b:∀p∈a,p<1000000000)(c:∀k,a.length=k+1->a.getD k 0≠0)(n:Nat):∀k,a.length=n+k->(JD (a.drop n)).length<=9*k:=by
 intro k;induction k generalizing n with
 |zero=>intro h;rw[QP om];simp[JD]
 |succ k d=>
  intro h;have a:=zbS 9 _ (zlI b n om) om;by_cases a:k=0
  ·subst a;rw[(zi7 n om).1];omega
  ·rw[zi6 b c n om];have:=d (n+1) om;rw[zM,zM,zbz];omega
theorem zj0(w:H)(v:Value)(a:NatV w v 0):
 Calls pg 73 #[v] w fun e w'=>e=Xa (gS ⟨(Lib.decDigits 0).toArray⟩)/\Below w.heap.size w w':=by
 go_enter func73,ntmps73
 go_wp2_with fail
 refine(JR _ _ a).mono ?_;rintro e a ⟨rfl,rfl⟩;go_wp2;go_ret;refine⟨?_,qf _ _⟩;rw[Lib.decDigits_one om];rfl
def jL (p:Int)(q:Nat):List UInt8:=if q=1 then Lib.itoa p else Lib.itoa p++([47]++Lib.decDigits q)
theorem zfg(l:List UInt8):(ByteArray.mk l.toArray).size=l.length:=by simp[ByteArray.size]
theorem zj1(s:ByteArray)(m:Nat)(w:H)(hm:m<=1000000000)(r:0<(Lib.trimPrefix s.data.toList [45]).length)(h1:(Lib.trimPrefix s.data.toList [45]).length<=m)(h2:Qm (Lib.trimPrefix s.data.toList [45])=true):
 Calls pg 67 #[gS s,it Xb (m:Nat)] w fun e w'=>∃x,e=Xa (tp #[x,G true])/\zy w' x (sg (Lib.hasPrefix s.data.toList [45]) (ZE (Lib.trimPrefix s.data.toList [45])))/\Below w.heap.size w w':=by
 have v:Zh (w.alloc (cl #[G false,V O 0 0] 85)) w.heap.size (G false) (V O 0 0):=Xl _ _ _ _;have g:Below w.heap.size w (w.alloc (cl #[G false,V O 0 0] 85)):=(qf _ _).alloc (zh _) _;have j:=Tryz.strings_CutPrefix s ⟨#[45]⟩ (w.alloc (cl #[G false,V O 0 0] 85));have q:(ByteArray.mk #[45]).data.toList= [45]:=rfl;rw[q]at j;generalize Lib.trimPrefix s.data.toList [45]=d at *;generalize Lib.hasPrefix s.data.toList [45]=neg at *;have l:=zf j;have A:=zfg d;have a:=zf A;go_enter func67,ntmps67
 go_wp2_with fail
 refine l.out.mono ?_;rintro e M ⟨rfl,rfl⟩;go_wp2_with fail
 refine(zlH ⟨d.toArray⟩ m _ hm (by rw[a.out];exact r) (by rw[a.out];exact h1) (by simpa using h2)).mono ?_;rintro e k ⟨K,rfl,B,h⟩;have C:NatV k K (ZE d):=by simpa using B
 have y:=v.below h;have f:=g.trans (h.mono g.size);go_wp2_with fail
 refine(Jh _ _ _ _ C).mono ?_;rintro e L ⟨x,rfl,F,i⟩;obtain⟨p,o,J,I,rfl,D,t⟩:=F.parts;have z:=y.below i;have u:=f.trans (i.mono f.size);obtain⟨b,c,_,_,_⟩:=z;go_wp2;exact zH (v:=tp #[ag #[G p,V o J I],G true]) (by simp[results,results67,go_sem,b,c]) rfl ⟨_,rfl,QJ D t b c,
  (u.setCell sp _).setCell sp _⟩
theorem zqr{x D S T:Nat}(a:B=S*T)(b:0<S)(d:0<T)(e:x<B):((x+B*(D%B))/S)%B+B*(D/S)=(x+B*D)/S:=by
 subst a;have a:∀h,(x+S*T*h)/S=x/S+T*h:=fun h=>by
  rw[Zt,zbO _ _ b]
 have c:=(QC b).2 (by rw[Z5];exact e);rw[a,a,Z5 S T,Nat.mod_mul];have a:(x/S+T*(D%(T*S)))%T=x/S:=by rw[Js,Jk c]
 have b:(x/S+T*(D%(T*S)))/T=D%(T*S):=by rw[zbO _ _ d,jH c,qt]
 rw[a,b,Nat.mod_mod_of_dvd _ (Nat.dvd_mul_left S T)];have a:=Nat.mod_add_div D S;have b:T*(D%S)+T*S*(D/S)=T*D:=by
  rw[Zt,<-Zs,a]
 omega
theorem zox{ds:List Nat}{S T:Nat}(c:4294967296=S*T)(d:0<S)(e:0<T)(b:k<a.length)(h:k<ds.length)(f:Dig ds)(g:val (a.drop (k+1))=val (ds.drop (k+1))/S):
 val ((a.set k (((ds.getD k 0+4294967296*(val (ds.drop (k+1))%4294967296))/S)%4294967296)).drop k)=val (ds.drop k)/S:=by
 rw[val_drop _ k (by rw[qX];exact b),zb2 _ _ _ b,QH,g,val_drop ds k h];exact zqr c d e (f.get k)
theorem zk1(w:H)(b off cap s:Nat)(ds:List Nat)(hs:s<=31)(Y:ds.length<=cap)(a0:ds.length<=1073741824)(P:Row w b off ds)(L:zcj w b off ds.length)(l:Dig ds):
 Calls pg 285 #[V (E (Xd b off O)) ds.length cap,it Xb (s:Nat)] w fun e w'=>
  e=Xa (V (E (Xd b off O)) ds.length cap)/\∃d,d.length=ds.length/\Dig d/\Row w' b off d/\Upd b off ds.length w w'/\val d=val ds/2^s:=by
 have t:0<2^s:=zbb dc;have u:0<2^(32-s):=zbb dc;have h:4294967296=2^s*2^(32-s):=by rw[<-Q6,show s+(32-s)=32 by omega]
 obtain⟨S,hS⟩:∃S,2^s=S:=⟨_,rfl⟩;obtain⟨T,hT⟩:∃T,2^(32-s)=T:=⟨_,rfl⟩;rw[hS]at t h;rw[hT]at u h;have q:=zf hS;have C:=zf h;go_enter func285,ntmps285
 go_wp2;go_loopw [5,6] (fun I p wr=>∃(k a:Nat) (c:List Nat),k<=ds.length/\a<18446744073709551616/\p=it Xb ((k:Int)-1)/\I=it .u64 (a:Nat)/\Hid (c.length=ds.length)/\Dig c/\Row wr b off c/\Upd b off ds.length w wr/\
  Hid (c.take k=ds.take k)/\Hid (a%4294967296=val (ds.drop k)%4294967296)/\Hid (val (c.drop k)=val (ds.drop k)/S)) (fun _ p _=>(intOf p+1).toNat)
 case atStart=>exact⟨ds.length,0,ds,zh _,om,rfl,rfl,rfl,l,P,Xs _ _ _ _,rfl,by simp[Hid,val],by simp[Hid,val]⟩
 case round=>
  obtain⟨k,a,c,_,_,rfl,rfl,i,v,j,o,A,N,B⟩:=hrel;cases k with
  |zero=>
   have r:=zf B.out;simp only[Q2]at r;go_wp2;go_ret;exact⟨rfl,c,i.out,v,j,o,by rw[r.out,q.out]⟩
  |succ k=>
   have m:k<c.length:=by rw[i.out];omega
   have R:=j k m;rw[zhb A.out]at R;have U:=l.get k;have Z:=o.free L k om;have x:=zox C.out t u m (show k<ds.length by omega) l B.out;have Q:=val_drop ds k om;rw[<-N.out]at x;have f:=fun z=>j.setCell k z m
   have g:=fun z=>o.setCell k (show k<ds.length by omega) z
   have M:a%4294967296<4294967296:=Z0 _ dc;have D:Hid ((ds.getD k 0+4294967296*(a%4294967296))%4294967296=val (ds.drop k)%4294967296):=by rw[Hid,Q,Js,Js]
   have a1:=zga (a%4294967296) (ds.getD k 0) M U;have hw:IntKind.u64.wrap ((a:Int)*4294967296)=((a%4294967296:Nat):Int)*4294967296:=by
    have e:∀n:Int,IntKind.u64.wrap n=n%18446744073709551616:=fun n=>by simp[IntKind.wrap,IntKind.signed,IntKind.bits]
    rw[e];omega
   have W:ds.getD k 0+4294967296*(a%4294967296)<18446744073709551616:=om;generalize ds.getD k 0=X at *;generalize a%4294967296=K at *;generalize X+4294967296*K=y at *;have f:=f (y/S%4294967296);have g:=g (it .u32 ((y/S%4294967296:Nat):Int));have J:((y/S%4294967296:Nat):Int)=(y:Int)/2^s%4294967296:=by rw[<-q.out];simp
   rw[J]at f g;have F:=zf x;go_wp2;go_roundw
   case rel=>exact⟨k,y,_,om,W,by go_num,rfl,by rw[Hid,qX,i.out],v.set _ _ (Z0 _ dc),f,g,by rw[Hid,zib];exact zkk A.out,D,F.out⟩
   case measure=>simp[intOf]
theorem zgD(w:H)(x y:Value)(z t:Int)(K:Nat)(W:K<=1073741823)(h:zy w x z)(k:zy w y t)(hz:z.natAbs<4294967296^K)(ht:t.natAbs<4294967296^K):
 Calls pg 77 #[x,y] w fun e w'=>∃s,e=Xa s/\zy w' s (z-t)/\Below w.heap.size w w':=by
 obtain⟨c,b,l,g,rfl,hv,hb⟩:=h.parts;obtain⟨f,d,m,i,rfl,a4,a0⟩:=k.parts;have a3:(-t).natAbs<4294967296^K:=by rw[Int.natAbs_neg];exact ht
 have o:=zbt w (cl #[G c,V b l g] 85) (cl #[G f,V d m i] 85) (cl #[G false,V O 0 0] 85);have X:=h.below o;have Z:=k.below o;have C:Zh (((w.alloc (cl #[G c,V b l g] 85)).alloc (cl #[G f,V d m i] 85)).alloc (cl #[G false,V O 0 0] 85)) w.heap.size (G c) (V b l g):=((Xl _ _ _ _).alloc _).alloc _;have I:Zh (((w.alloc (cl #[G c,V b l g] 85)).alloc (cl #[G f,V d m i] 85)).alloc (cl #[G false,V O 0 0] 85)) (w.heap.size+1) (G f) (V d m i):=(Zh.new1 _ _ _ _ _).alloc _;have M:Zh (((w.alloc (cl #[G c,V b l g] 85)).alloc (cl #[G f,V d m i] 85)).alloc (cl #[G false,V O 0 0] 85)) (w.heap.size+1+1) (G false) (V O 0 0):=Zh.new2 _ _ _ _ _ _;clear hv hb a4 a0;go_enter func77,ntmps77
 go_wp2;go_region_held (fun w'=>w'.cell? (Xd w.heap.size 0 O)=E (G c)/\w'.cell? (Xd w.heap.size 1 O)=E (V b l g)/\w'.cell? ⟨w.heap.size+1,0,O⟩=E (G f)/\w'.cell? ⟨w.heap.size+1,1,O⟩=E (V d m i)) (first|(refine⟨?_,?_,?_,?_⟩<;>(rw[far,far]<;>first|assumption|omega))|go_keep) (first|(go_at_call 142;refine(zeF _ _ _ z (-t) K W Y U hz a3).mono ?_;rintro e wB ⟨_,rfl,u,j⟩;obtain⟨R,Q,l2,k2,rfl,_,_⟩:=u.parts;have F:=p.below j;obtain⟨_,_,_,_,_⟩:=F;have L:=q.below j;obtain⟨_,_,_,_,_⟩:=L;have r:=N.below j;have P:=r;obtain⟨S,T,_,_,_⟩:=P;have a1:=A.trans (j.mono A.size))|(go_at_call 143;refine(zau _ _ t (by exact Z)).mono ?_;rintro e B ⟨_,rfl,U,a⟩;have Y:=X.drewN 1 |>.below a;have p:=C.drew.below a;have D:=p;obtain⟨_,_,_,_,_⟩:=D;have q:=I.drew.below a;have J:=q;obtain⟨_,_,_,_,_⟩:=J;have N:=M.drew.below a;have A:Below w.heap.size w B:=o.trans (c:=B) ⟨a.os,a.tape,a.output,by have:=a.size;simpa using this,fun k hk=>a.block k so⟩))
 all_goals go_wp2
 all_goals exact zH (v:=ag #[G R,V Q l2 k2]) (by simp[results,results77,go_sem,S,T]) rfl ⟨_,rfl,by rw[Int.sub_eq_add_neg];exact u.stored r,(a1.setCell so _).setCell so _⟩
def QY (q:Nat):Value:= .func (.func 288) #[] #[pn (E (Xd q 0 O))]
def ZA (q:Nat):Value:= .func (.func 290) #[] #[pn (E (Xd q 0 O))]
def jP (q:Nat):Value:= .func (.func 292) #[] #[pn (E (Xd q 0 O))]
def zgh (q:Nat):Value:= .func (.func 289) #[] #[pn (E (Xd q 0 O))]
theorem ziz:∀args w,(callFunc 288 args).run pg w= .ok (.enter 288 args) w:=qW func288 kr rfl
theorem ziA:∀args w,(callFunc 290 args).run pg w= .ok (.enter 290 args) w:=qW func290 kr rfl
theorem zqs:∀args w,(callFunc 292 args).run pg w= .ok (.enter 292 args) w:=qW func292 kr rfl
theorem zqt:∀args w,(callFunc 289 args).run pg w= .ok (.enter 289 args) w:=qW func289 kr rfl
theorem Tryz.infoPlace:(Tryz.prog.info? 327).map (fun i=>(i.zero,i.size,i.bytes))=E (E (.nilFunc),1,8):=kr
structure Pls (B:Nat)(w A:H)(gpl q0:Nat)(wd:List UInt8)(qs:List Nat)(pt:Nat->Addr)(xs:List Nat)(ap:Option Addr)(kp:Nat):Prop where
 own:A.ownsRow B 327 1 (V ap (qs.length+1) kp) (qs.length+1) (QY q0::qs.map ZA)
 box:A.cell? (Xd gpl 0 O)=E (V ap (qs.length+1) kp)
 fro:A.frozen? (Xd gpl 0 O)=false
 q0c:A.cell? (Xd q0 0 O)=E (gS ⟨wd.toArray⟩)
 qsc:∀j q,qs[j]? =E q->A.cell? (Xd q 0 O)=E (pn (E (pt j)))
 new:B<=gpl/\gpl≠q0/\B<=q0/\∀q∈qs,B<=q/\q≠gpl
 lt:∀x∈gpl::q0::(qs++xs),x<A.heap.size
 sep:∀g,(V ap (qs.length+1) kp).ownBlock=E g->∀x∈gpl::q0::(qs++xs),g≠x
 bel:Below B w A
 le:B<=w.heap.size
theorem zn.cells'(b:zn B w w'){o:Obj}(ho:w.heap[g]? =E o)(a:o.isCells=true):w'.heap[g]? =w.heap[g]?:=(b.block g o ho (.inr a)).trans ho.symm
theorem znA{B':Nat}{size:Nat}{v:Value}{xs:List Value}(h:w.ownsRow B e size v n xs)(m:zn B' w w'):w'.ownsRow B e size v n xs:=by
 obtain⟨a,f|⟨g,c,d,p,l,b,o,i,j,k⟩⟩:=h;·exact⟨a,Or.inl f⟩
 ·exact⟨a,Or.inr ⟨g,c,d,p,l,(m.cells' b rfl).trans b,o,i,j,k⟩⟩
theorem Pls.keep{C:Nat}{b:H}{f:Nat}{i:List UInt8}{g:List Nat}{c:Option Addr}(h:Pls B w A d f i g pt xs c e)(a:zn C A b)(j:B<=C):Pls B w b d f i g pt xs c e:=
 ⟨znA h.own a,a.cell h.box,(a.frozen h.box).trans h.fro,a.cell h.q0c,fun c q b=>a.cell (h.qsc c q b),h.new,fun x b=>zK (h.lt x b) a.size,h.sep,a.below h.bel j h.le,h.le⟩
theorem Pls.alloc{e:List Nat}{a:Option Addr}(h:Pls B w A b d f e pt xs a c)(o:Obj):Pls B w (A.alloc o) b d f e pt xs a c:=h.keep (zn.alloc B _ _) (zh _)
theorem Pls.drew{e:List Nat}{a:Option Addr}(h:Pls B w A b d f e pt xs a c):Pls B w A.drew b d f e pt xs a c:=h.keep (zn.drew B _) (zh _)
theorem Pls.grow{j:H}{i q g cap:Nat}{c:List UInt8}{d:Option Addr}{f:Nat}(h:Pls B w A b i c a pt xs d f)(u:A.cell? (Xd q 0 O)=E (pn (E (pt a.length))))(W:B<=q)(v:q≠b)(y:∀g,(V d (a.length+1) f).ownBlock=E g->g≠q)(U:j.ownsRow B 327 1 (V (E (Xd g 0 O)) (a.length+1+1) cap) (a.length+1+1) (QY i::a.map ZA ++ [ZA q]))(hg:A.grownBy j (V d (a.length+1) f).ownBlock)(t:(V d (a.length+1) f).ownBlock=E g\/g=A.heap.size):
 Pls B w (j.setCell (Xd b 0 O) (V (E (Xd g 0 O)) (a.length+1+1) cap)) b i c (a ++ [q]) pt xs (E (Xd g 0 O)) cap/\
  Wr (fun x=>x=b\/(V d (a.length+1) f).ownBlock=E x) A (j.setCell (Xd b 0 O) (V (E (Xd g 0 O)) (a.length+1+1) cap)):=by
 have c:q<A.heap.size:=zw u;have k:Wr (fun x=>(V d (a.length+1) f).ownBlock=E x) A j:=⟨hg.os,hg.tape,hg.output,hg.size,fun l s e=>hg.block l s (fun r=>e r.symm)⟩;have o:∀{x:Nat},x∈b::i::(a++xs)->¬(V d (a.length+1) f).ownBlock=E x:=fun c e=>h.sep _ e _ c rfl
 have N:=k.cell (p:=(Xd b 0 O)) (o sp) h.box;have m:∀x∈b::i::(a++xs),g≠x:=by
  intro x c;rcases t with e|e
  ·exact h.sep g e x c
  ·have:=h.lt x c;omega
 have Q:g≠q:=by
  rcases t with e|e
  ·exact y g e
  ·omega
 have P:=m b sp;have t:(a ++ [q]).length+1=a.length+1+1:=sp;have r:QY i::(a ++ [q]).map ZA=QY i::a.map ZA ++ [ZA q]:=sp;have L:Below B w j:=⟨hg.os.trans h.bel.os,hg.tape.trans h.bel.tape,hg.output.trans h.bel.output,zF h.bel.size hg.size,fun l s=>(hg.block l (by have:=h.bel.size;have:=h.le;omega) (fun e=>by have:=(h.own.lt l e.symm).1;omega)).trans (h.bel.block l s)⟩;refine⟨⟨?_,?_,?_,?_,?_,?_,?_,?_,?_,h.le⟩,?_⟩
 ·rw[t,r];obtain⟨D,F|⟨C,s,z,r,M,R,S,I,J,K⟩⟩:=U;·exact absurd F.1 sp
  ·refine⟨D,Or.inr ⟨C,s,z,r,M,(qC _ _ _ _ ?_).trans R,S,I,J,K⟩⟩;simp only[qp,qN,Jg]at r;rw[<-r.1.1];exact P
 ·rw[t];exact zN _ _ _ N
 ·have:=(k.block b (h.lt b sp) (o sp));have r:j.frozen? (Xd b 0 O)=A.frozen? (Xd b 0 O):=qw (w:=A) this;simpa using r.trans h.fro
 ·rw[qj _ _ _ _ (by simpa using h.new.2.1)];exact k.cell (p:=(Xd i 0 O)) (o sp) h.q0c
 ·intro r j i;by_cases s:r<a.length
  ·rw[zS s]at i;have hm:=zx i;rw[qj _ _ _ _ (by simpa using Qr (h.new.2.2.2 j hm).2)];exact k.cell (p:=(Xd j 0 O)) (o (by simp[hm])) (h.qsc r j i)
  ·have j:r=a.length:=by
    have:=(zo.1 i).1;simp at this;omega
   subst j;rw[zG (zh _),Qn]at i;simp at i;subst i;rw[qj _ _ _ _ (by simpa using Qr v)];exact k.cell (p:=(Xd q 0 O)) (fun e=>y _ e rfl) u
 ·refine⟨h.new.1,h.new.2.1,h.new.2.2.1,fun x c=>?_⟩;rcases zU.1 c with e|e
  ·exact h.new.2.2.2 x e
  ·rw[qg.1 e];exact⟨W,v⟩
 ·intro x c;have i:=hg.size;simp only[zI,zU,Zl]at c;have:x<A.heap.size:=by
   rcases c with e|e|e|e|e
   ·exact h.lt x (by simp[e])
   ·exact h.lt x (by simp[e])
   ·exact h.lt x (by simp[e])
   ·rcases e with e|e
    ·omega
    ·cases e
   ·exact h.lt x (by simp[e])
  simp;omega
 ·intro i j x c;have:i=g:=by simpa[Value.ownBlock]using j.symm
  subst this;simp only[zI,zU,Zl]at c;rcases c with e|e|e|e|e
  ·exact m x (by simp[e])
  ·exact m x (by simp[e])
  ·exact m x (by simp[e])
  ·rcases e with e|e
   ·rw[e];exact Q
   ·cases e
  ·exact m x (by simp[e])
 ·exact L.setCell (p:=(Xd b 0 O)) h.new.1 _
 ·exact Xq (T:=fun x=>x=b\/(V d (a.length+1) f).ownBlock=E x) (k.mono (fun l e=>Or.inr e)) (p:=(Xd b 0 O)) (Or.inl rfl) _
theorem Pls.alloc_avoid{e:List Nat}{a:Option Addr}(h:Pls B w A b d f e pt xs a c)(o:Obj):Pls B w (A.alloc o) b d f e pt (A.heap.size::xs) a c:=by
 have a:=h.alloc o;refine⟨a.own,a.box,a.fro,a.q0c,a.qsc,a.new,fun x c=>?_,fun g b x c=>?_,a.bel,a.le⟩
 ·simp only[zI,zU]at c;rcases c with e|e|e|e|e
  ·exact a.lt x (by simp[e])
  ·exact a.lt x (by simp[e])
  ·exact a.lt x (by simp[e])
  ·rw[e];simp
  ·exact a.lt x (by simp[e])
 ·simp only[zI,zU]at c;rcases c with e|e|e|e|e
  ·exact a.sep g b x (by simp[e])
  ·exact a.sep g b x (by simp[e])
  ·exact a.sep g b x (by simp[e])
  ·have:=(h.own.lt g b).2;omega
  ·exact a.sep g b x (by simp[e])
theorem Pls.avoid{c:List Nat}{a:Option Addr}(h:Pls B w A d e f c pt xs a b)(y:Nat)(j:y<A.heap.size)(i:∀g,(V a (c.length+1) b).ownBlock=E g->g≠y):Pls B w A d e f c pt (y::xs) a b:=by
 refine⟨h.own,h.box,h.fro,h.q0c,h.qsc,h.new,fun x b=>?_,fun g a x b=>?_,h.bel,h.le⟩
 ·simp only[zI,zU]at b;rcases b with e|e|e|e|e
  ·exact h.lt x (by simp[e])
  ·exact h.lt x (by simp[e])
  ·exact h.lt x (by simp[e])
  ·rw[e];exact j
  ·exact h.lt x (by simp[e])
 ·simp only[zI,zU]at b;rcases b with e|e|e|e|e
  ·exact h.sep g a x (by simp[e])
  ·exact h.sep g a x (by simp[e])
  ·exact h.sep g a x (by simp[e])
  ·rw[e];exact i g a
  ·exact h.sep g a x (by simp[e])
theorem Pls.start(w W:H)(hb:Below w.heap.size w W)(a:List UInt8)(pt:Nat->Addr):
 Pls w.heap.size w (((W.alloc (cl #[gS ⟨a.toArray⟩] 9)).alloc (cl #[QY W.heap.size] 327)).alloc (cl #[V (E ⟨W.heap.size+1,0,O⟩) 1 1] 331))
  (W.heap.size+1+1) W.heap.size a [] pt [] (E ⟨W.heap.size+1,0,O⟩) 1:=by
 have d:=hb.size;refine⟨⟨rfl,Or.inr ⟨W.heap.size+1,1,#[QY W.heap.size],rfl,om,?_,zh _,mo,rfl,rfl⟩⟩,?_,?_,?_,fun j q b=>by simp at b,⟨om,om,d,fun q b=>by simp at b⟩,fun x b=>?_,fun g e x b=>?_,?_,zh _⟩
 ·have c:=qR (W.alloc (cl #[gS ⟨a.toArray⟩] 9)) (cl #[QY W.heap.size] 327);rw[zL]at c;exact(qH _ _ _ sp).trans c
 ·have:=(ZU ((W.alloc (cl #[gS ⟨a.toArray⟩] 9)).alloc (cl #[QY W.heap.size] 327)) 331 (V (E ⟨W.heap.size+1,0,O⟩) 1 1)).cell;rwa [zL,zL]at this
 ·have:=(ZU ((W.alloc (cl #[gS ⟨a.toArray⟩] 9)).alloc (cl #[QY W.heap.size] 327)) 331 (V (E ⟨W.heap.size+1,0,O⟩) 1 1)).frozen;rwa [zL,zL]at this
 ·exact(((ZU W 9 (gS ⟨a.toArray⟩)).alloc _).alloc _).cell
 ·simp only[zI,ZR,zY,Zp]at b;simp;omega
 ·simp[Value.ownBlock]at e;simp only[zI,ZR,zY,Zp]at b;omega
 ·exact(((hb.alloc d _).alloc so _).alloc so _)
theorem Pls.row{b:List Nat}{c:Option Addr}{a:Nat}(h:Pls B w A e d f b pt xs c a):
 ∃g,c=E (Xd g 0 O)/\B<=g/\g<A.heap.size/\b.length+1<=a/\a<=9223372036854775807/\∀i fv,(QY d::b.map ZA)[i]? =E fv->A.cell? (Xd g i O)=E fv:=by
 have e:=h.own;have f:=h.own.lt;obtain⟨_,b|⟨g,_,_,a,d,_,j,c,_,_⟩⟩:=h.own;·exact absurd b.1 sp
 ·simp only[qp]at a;obtain⟨rfl,_,rfl⟩:=a;refine⟨g,rfl,d,(f g rfl).2,j,by unfold maxLen at c;omega,fun i fv a=>?_⟩;have:=e.cells (g:=g) rfl i fv a;have e:(⟨g,0,O⟩:Addr).add i=⟨g,i,O⟩:=by
   unfold Addr.add;split
   ·rename_i a;rw[a]
   ·simp
  rw[e]at this;exact this
theorem zag{F:Fence}{P:Program}(w:H){l:Array Oper}{o:Oper}{a:Act}{K:Act->H->Prop}{Q:Exit->Act->H->Prop}{p:Prop}(q:o.guard=O)(s x:Operand)(t:TypeId)(ho:o.op= .call { callee:= .builtin .append,args:=#[s,x],argTypes:=#[t,t] })(base:Nat)(e:TypeId)(i:TypeInfo)(z:Value)(size bytes:Nat)(T:P.underlying t=E (.slice e))(I:P.info? e=E i)(W:i.zero=E z)(R:i.size=size)(C:i.bytes=bytes)(X:z.cells.size=size)(S:0<size)(v:Value)(m:Nat)(xs:List Value)(hs:a.eval s=v)(M:w.ownsRow base e size v m xs)(f:Addr)(k c:Nat)(b:List Value)(U:a.eval x=V (E f) k c)(J:b.length=k*size)(L:∀j u,b[j]? =E u->w.cell? (f.add j)=E u)(h1:∀u∈b,u.oneCell'=true)(hm:0<k)(y:m+k<=maxLen)(D:(m+k)*bytes<=140737488355328)(B:base<=w.heap.size)(d:Nat)(A:w.heap.size=d)(h:∀g cap w',w'.ownsRow base e size (V (E (Xd g 0 O)) (m+k) cap) (m+k) (xs++b)->w.grownBy w' v.ownBlock->(v.ownBlock=E g\/g=d)->g<w'.heap.size->K (a.put o.dst (V (E (Xd g 0 O)) (m+k) cap)) w'):
 if Region.wanted o (yielded l a.tmps)=true then Oper.wpIn F n P o a w K Q else p:=by
 have p:Region.wanted o (yielded l a.tmps)=true:=by simp[Region.wanted,q]
 rw[zQ p];obtain⟨g,cap,w',N,l,p,q,r⟩:=run_append_lies (P:=P) w t o.type base e i z size bytes T I W R C X S v m xs M f k c b J L h1 hm y D B d A;unfold Oper.wpIn;refine⟨?_,?_⟩;·simp[Oper.about,ho,resolve,Target.leads,Sem.run_pure]
 ·rw[Oper.semAt_plain F _ _ (by rw[ho];intro c b;cases b)];simp[execOp,ho,resolve,invoke,builtin,hs,U,N,Result.andThen];exact h g cap w' l p q r
theorem JT{F:Fence}(A:H){z:Array Oper}{o:Oper}{a:Act}{K:Act->H->Prop}{Q:Exit->Act->H->Prop}{m:Prop}(p:o.guard=O)(s x:Operand)(ho:o.op= .call { callee:= .builtin .append,args:=#[s,x],argTypes:=#[331,331] }){f q:Nat}{l:List UInt8}{d:List Nat}{j:Option Addr}(e:Pls B w A c f l d pt xs j k)(C:d.length<=900)(hs:a.eval s=V j (d.length+1) k)(r:a.eval x=V (E (Xd b 0 O)) 1 1)(hb:A.cell? (Xd b 0 O)=E (ZA q))(t:A.cell? (Xd q 0 O)=E (pn (E (pt d.length))))(u:B<=q)(v:q≠c)(y:∀g,(V j (d.length+1) k).ownBlock=E g->g≠q)(h:∀g cap i,Pls B w (i.setCell (Xd c 0 O) (V (E (Xd g 0 O)) (d.length+1+1) cap)) c f l (d ++ [q]) pt xs (E (Xd g 0 O)) cap->
  Wr (fun x=>x=c\/(V j (d.length+1) k).ownBlock=E x) A (i.setCell (Xd c 0 O) (V (E (Xd g 0 O)) (d.length+1+1) cap))->
  ((V j (d.length+1) k).ownBlock=E g\/A.heap.size<=g)->
  i.cell? (Xd c 0 O)=E (V j (d.length+1) k)->i.frozen? (Xd c 0 O)=false->K (a.put o.dst (V (E (Xd g 0 O)) (d.length+1+1) cap)) i):
 if Region.wanted o (yielded z a.tmps)=true then Oper.wpIn F n pg o a A K Q else m:=by
 obtain⟨C,f,l,m,z⟩:=Zn Tryz.infoPlace;refine zag A p s x 331 ho B 327 C .nilFunc 1 8 underlying331 f l m z rfl dc _ _ _ hs e.own ⟨b,0,O⟩ 1 1 [ZA q] r rfl ?_ (fun m f=>by simp at f;subst f;rfl) om mo om (by have:=e.bel.size;have:=e.le;omega) A.heap.size rfl ?_
 ·intro l m f;match l,f with
  |0,f=>simp at f;subst f;simpa[Addr.add]using hb
  |l+1,f=>simp at f
 ·intro g cap i m f l p;obtain⟨p,r⟩:=e.grow t u v y m f l;have m:¬(V j (d.length+1) k).ownBlock=E c:=fun d=>e.sep _ d c sp rfl
  refine h g cap i p r (l.imp id (fun d=>om)) ?_ ?_;·exact(f.cell_far ⟨c,0,O⟩ (e.lt c sp) (fun d=>m d.symm)).trans e.box
  ·exact(f.frozen_far ⟨c,0,O⟩ (e.lt c sp) (fun d=>m d.symm)).trans e.fro
theorem zj2(a:Option Addr)(l c:Nat)(w:H):
 Calls pg 105 #[V a l c] w fun e w'=>e=Xa (.func (.func 192) #[] #[pn (E (Xd w.heap.size 0 O))])/\w'=w.alloc (cl #[V a l c] 68):=by
 go_enter func105,ntmps105
 have a:=jR;go_wp2;go_ret;exact⟨rfl,rfl⟩
theorem zmx(a:Option Addr)(l c:Nat)(w:H):
 Calls pg 106 #[V a l c] w fun e w'=>e=Xa (.func (.func 194) #[] #[pn (E (Xd w.heap.size 0 O))])/\w'=w.alloc (cl #[V a l c] 69):=by
 go_enter func106,ntmps106
 have a:=jR;go_wp2;go_ret;exact⟨rfl,rfl⟩
theorem zk2(a:Option Addr)(l c:Nat)(w:H):
 Calls pg 196 #[V a l c] w fun e w'=>e=Xa (.func (.func 261) #[] #[pn (E (Xd w.heap.size 0 O))])/\w'=w.alloc (cl #[V a l c] 96):=by
 go_enter func196,ntmps196
 have a:=jR;go_wp2;go_ret;exact⟨rfl,rfl⟩
theorem zgE(a:Option Addr)(n cap:Nat)(b:Value)(w:H):
 Calls pg 58 #[ag #[V a n cap,b]] w fun e w'=>e=Xa (.func (.func 192) #[] #[pn (E ⟨w.heap.size+1,0,O⟩)])/\w'=(w.alloc (cl #[V a n cap,b] 71)).alloc (cl #[V a n cap] 68):=by
 go_enter func58,ntmps58
 go_wp2_with fail
 refine(zj2 a n cap _).mono ?_;rintro e a ⟨rfl,rfl⟩;go_wp2;go_ret;exact⟨sp,rfl⟩
theorem zrK(a:Option Addr)(n cap:Nat)(b:Value)(w:H):
 Calls pg 59 #[ag #[b,V a n cap]] w fun e w'=>e=Xa (.func (.func 194) #[] #[pn (E ⟨w.heap.size+1,0,O⟩)])/\w'=(w.alloc (cl #[b,V a n cap] 71)).alloc (cl #[V a n cap] 69):=by
 go_enter func59,ntmps59
 go_wp2_with fail
 refine(zmx a n cap _).mono ?_;rintro e a ⟨rfl,rfl⟩;go_wp2;go_ret;exact⟨sp,rfl⟩
theorem zi8(s:ByteArray)(x:Bool)(d:Option Addr)(c b:Nat)(a:Option Addr)(n cap:Nat)(w:H):
 Calls pg 107 #[ag #[gS s,G x,V d c b,V a n cap]] w fun e w'=>e=Xa (.func (.func 261) #[] #[pn (E ⟨w.heap.size+1,0,O⟩)])/\w'=(w.alloc (cl #[gS s,G x,V d c b,V a n cap] 143)).alloc (cl #[V a n cap] 96):=by
 go_enter func107,ntmps107
 go_wp2_with fail
 refine(zk2 a n cap _).mono ?_;rintro e a ⟨rfl,rfl⟩;go_wp2;go_ret;exact⟨sp,rfl⟩
