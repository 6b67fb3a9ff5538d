import Derived.Test.YthnopjedhcapmaaGreatDoorMvr1Z3
import Derived.Test.YthnopjedhcapmaaGreatDoorMvr1Z2
open Option renaming none->O,some->E
open Go.Value renaming slice->V,bool->G,string->gS,pointer->pn,tuple->tp,int->it,agg->ag
open Go.Obj renaming cells->cl
open Go renaming World->H
open Go.Proofs.Tryz renaming prog->pg
open Go.Proofs.Tryz
open Go.Ending renaming returned->Xa
open Go.IntKind renaming i64->Xb
open Go.Addr renaming mk->Xd
set_option linter.unusedSimpArgs false
set_option linter.unusedVariables false
set_option maxHeartbeats 2000000
set_option maxRecDepth 100000
namespace Go.Proofs.YthnopjedhcapmaaGreatDoor
namespace T
open Go.RowKit
theorem Tryz.infoInt:(Tryz.prog.info? 3).map (fun i=>(i.zero,i.size,i.bytes))=E (E (i_ 0),1,8):=kr
end T

section
open Go.RowKit
variable {ds:N_}
theorem zqn(ds:N_)(i x:Nat):(ds.set i x).map encD=(ds.map encD).set i (encD x):=by rw[List.map_set]
theorem znx{b:N_}{k c m:Nat}(d:k<b.length)(hi:val (b.take k)+4294967296^k*c=val (ds.take k)*1000000000+m):
 val ((b.set k ((c+ds.getD k 0*1000000000)%4294967296)).take (k+1))+4294967296^(k+1)*((c+ds.getD k 0*1000000000)/4294967296)=val (ds.take (k+1))*1000000000+m:=by
 rw[val_lay b k _ d,val_take_any ds k,Zs,Zg,Zt];omega
theorem top_of_ge(d:Dig ds)(h:∀k,ds.length=k+1->4294967296^k<=val ds):Top ds:=by
 intro k e c;have b:=h k e;have e:=zbo ds k om;rw[zP om]at e;rw[e,val_append,c]at b;have c:=val_lt (d.take k);rw[zX,Qw om]at c;simp[val]at b;omega
theorem zqo{c:Nat}(b:c≠0):Top (ds ++ [c]):=by
 intro k d;have:ds.length=k:=by simpa using d
 subst this;simpa using b
theorem zjY(w:H)(B g cap m:Nat)(ds:N_)(f:w.ownsRow B 127 1 (V (E (Xd g 0 O)) ds.length cap) ds.length (ds.map encD))(c:B<=w.heap.size)(d:ds.length<=1073741823)(hm:m<1000000000)(p:Dig ds)(z:Top ds):
 C_ 69 #[V (E (Xd g 0 O)) ds.length cap,it .u32 (m:Nat)] w fun e w'=>
  ∃j i b,e=Xa (V (E (Xd j 0 O)) b.length i)/\w'.ownsRow B 127 1 (V (E (Xd j 0 O)) b.length i) b.length (b.map encD)/\Dig b/\val b=val ds*1000000000+m/\b.length<=ds.length+1/\Below B w w'/\Top b:=by
 have v:=(ze0 f).1;have⟨I,y,A,C,D⟩:=Zn Xu;go_enter func69,ntmps69
 go_wp2;go_loopw [5,11] (fun h d wr=>∃(k c:Nat) (b:N_),k<=ds.length/\c<4294967296/\d=i_ k/\h=it .u64 c/\Hid (b.length=ds.length)/\Dig b/\wr.ownsRow B 127 1 (V (E (Xd g 0 O)) ds.length cap) ds.length (b.map encD)/\Below B w wr/\
  Hid (b.drop k=ds.drop k)/\Hid (val (b.take k)+4294967296^k*c=val (ds.take k)*1000000000+m)) (fun _ d _=>ds.length-(intOf d).toNat)
 case atStart=>exact⟨0,m,ds,qo _,om,rfl,rfl,rfl,p,f,qf _ _,rfl,by simp[Hid,val]⟩
 case round=>
  obtain⟨k,c,b,_,_,rfl,rfl,d,o,f,l,q,s⟩:=hrel;by_cases h:k<ds.length
  ·have r:k<b.length:=by rw[d.out];exact h
   have h:=row_of_owns f d.out k r;rw[zbq q.out,qt]at h;have h:=p.get k;have h:=f.frozenAt k;have h:=(f.stored k (encD ((c+ds.getD k 0*1000000000)%4294967296))).1;rw[<-zqn]at h;have u:=zf (znx r s.out);generalize ds.getD k 0=x at *;have r:encD ((c+x*1000000000)%4294967296)=it .u32 ((c+x*1000000000)%4294967296):=by unfold encD;exact qm _ om
   rw[r]at h;go_wp2;go_roundw
   case rel=>exact⟨k+1,(c+x*1000000000)/4294967296,_,om,(zf (show(c+x*1000000000)/4294967296<4294967296 by omega)).out,by go_num,by rw[(zf (show(((c+x*1000000000)/4294967296:Nat):Int)=((c:Int)+x*1000000000)/4294967296 by omega)).out],by rw[Hid,qX,d.out],o.set _ _ (Z0 _ dc),h,l.setCell (by exact v) _,by rw[Hid,QH];exact zat q.out,u.out⟩
   case measure=>simp[intOf];omega
  ·have h:k=ds.length:=om;have q:=s.out;rw[h,zP (by rw[d.out];omega),zP (zh ds.length)]at q;by_cases s:c=0
   ·subst s;have h:=zf q;have v:Top b:=by
     refine top_of_ge o (fun u t=>?_);have r:=z.le u (by rw[<-d.out];exact t);have t:=h.out;omega
    go_wp2;go_ret;have t:=d.out;rw[<-t]at f;exact⟨g,cap,b,zfD t.symm,f,o,by have:=h.out;omega,om,l,(zf v).out⟩
   ·have t:0<c:=om;have h:=zf q;have q:=l.size;go_wp2_with (at_builtin;refine zcU _ rfl _ _ 62 rfl B 127 I (it .u32 0) 1 4 underlying62 y A C D rfl dc (V (E (Xd g 0 O)) ds.length cap) ds.length (b.map encD) rfl (f.alloc _) (y_ wr 0) 1 1 [encD c] rfl rfl ?c1 ?c2 mo om so ?_)
    case c1=>exact JC _ _ _
    case c2=>intro u f;simp at f;subst f;rfl
    intro v x f t q;have u:v≠V_:=fun e=>q e
    have q:b.map encD ++ [encD c]=(b ++ [c]).map encD:=sp;rw[q]at f;have⟨j,i,q,_,_,_,_,_⟩:=owns_parts f u;subst q;have k:(b ++ [c]).length=ds.length+1:=by have:=d.out;simp;omega
    go_wp2;go_ret;rw[<-k]at f;refine⟨j,i,b ++ [c],zfD k.symm,f,o.append (by intro b p;simp at p;omega),?_,om,(l.alloc om _).grown t so (fun k k=>by simp[Value.ownBlock]at k;omega),zqo s⟩;rw[val_append,d.out];simp[val];exact h.out
def zhl:Value->Nat|gS s=>s.size|_=>0
theorem zi4{l m:U_}(h:Qm l=true)(hs:∀c∈m,c∈l):Qm m=true:=by
 unfold Qm at *;rw[Zi]at *;exact fun c b=>h c (hs c b)
theorem zmt(l:U_):ZE (Lib.trimLeftB l 48)=ZE l:=by
 unfold Lib.trimLeftB;induction l with
 |nil=>rfl
 |cons c l d=>
  by_cases b:c=48
  ·subst b;have e:ZE (48::l)=ZE l:=by simp[ZE]
   rw[e,List.dropWhile_cons_of_pos sp];exact d
  ·rw[List.dropWhile_cons_of_neg (by simpa using b)]
theorem zk0(l:U_)(c:UInt8):(Lib.trimLeftB l c).length<=l.length:=by
 unfold Lib.trimLeftB;exact(List.dropWhile_sublist _).length_le
theorem zlG{L:U_}{k n:Nat}(h:k=0\/n=9)(b:k+n<=L.length):ZE (L.take (k+n))=ZE (L.take k)*1000000000+ZE ((L.drop k).take n):=by
 rw[List.take_add,zkX];rcases h with h|h
 ·subst h;simp[ZE]
 ·subst h;have:((L.drop k).take 9).length=9:=by rw[zX,Za];omega
  rw[this]
theorem zmu(s:ByteArray)(m:Nat)(w:H)(hm:m<=1099511627776)(hs:s.size<=1099511627776)(h:s.data.toList= []\/m<s.size\/Qm s.data.toList=false):
 C_ 37 #[gS s,i_ (m:Nat)] w fun e w'=>e=Xa (tp #[V_,G false])/\w'=w:=by
 by_cases b:s.size=0
 ·have c:(s.size == 0)=true:=by rw[b];rfl
  go_enter func37,ntmps37
  go_wp2;go_ret2;exact⟨rfl,rfl⟩
 ·by_cases d:m<s.size
  ·go_enter func37,ntmps37
   go_wp2;go_ret2;exact⟨rfl,rfl⟩
  ·have g:Qm s.data.toList=false:=by
    rcases h with h|h|h
    ·exact absurd (by rw[Lib.size_eq,h];rfl) b
    ·exact absurd h d
    ·exact h
   go_enter func37,ntmps37
   go_wp2_with fail
   apply(zlz s _ hs g).mono;rintro e w' ⟨rfl,rfl⟩;go_wp2;go_ret2;exact⟨rfl,rfl⟩
theorem zlH(s:ByteArray)(m:Nat)(w:H)(hm:m<=1000000000)(b:0<s.size)(hs:s.size<=m)(h:Qm s.data.toList=true):
 C_ 37 #[gS s,i_ (m:Nat)] w fun e w'=>∃v,e=Xa (tp #[v,G true])/\NatV w' v (ZE s.data.toList)/\b_ w w':=by
 have g:((s.size:Int) == 0)=false:=ZN.2 om;have b:¬m<s.size:=om;have b:(Lib.trimLeftB s.data.toList 48).length<=s.size:=by rw[Lib.size_eq s];exact zk0 _ _
 have B:Qm (Lib.trimLeftB s.data.toList 48)=true:=zi4 h (fun x o=>(List.dropWhile_sublist _).subset o);have I:=zf (zmt s.data.toList);have⟨k,d,f,i,j⟩:=Zn Xu;go_enter func37,ntmps37
 go_wp2_with fail
 apply(zkY s _ om h).mono;rintro e w' ⟨rfl,rfl⟩;go_wp2_with fail
 apply(Tryz.strings_TrimLeft_one s 48 dc _).mono;rintro e c ⟨rfl,rfl⟩;generalize Lib.trimLeftB s.data.toList 48=L at *;have b:(ByteArray.mk L.toArray).size=L.length:=by simp[ByteArray.size]
 go_wp2_with (at_make;refine wpList_make_own _ rfl _ _ 62 rfl c.heap.size 127 k (it .u32 0) 1 underlying62 d f i _ _ _ (L.length/9+1) rfl rfl ?c0 (by rw[j];omega) mo (zh _) ?_)
 case c0=>rw[<-b];omega
 intro i d f;have l:=zf b;go_wp2;go_loopw [0,6] (fun i q wr=>∃(t:ByteArray) (k j f:Nat) (b:N_),i=gS t/\q=V (E (Xd j 0 O)) b.length f/\k<=L.length/\t.size<=1000000000/\Hid (t.data.toList=L.drop k)/\Hid (t.size=L.length-k)/\Hid (k=0\/(L.length-k)%9=0)/\
  wr.ownsRow c.heap.size 127 1 (V (E (Xd j 0 O)) b.length f) b.length (b.map encD)/\Dig b/\Top b/\Hid (val b=ZE (L.take k))/\b.length<=k/\b_ c wr) (fun i _ _=>zhl i)
 case atStart=>
  refine⟨_,0,c.heap.size,L.length/9+1,[],rfl,rfl,qo _,by rw[l.out];omega,by simp[Hid],by rw[Hid,l.out,zdO],Or.inl rfl,d,?_,Top.nil,by simp[Hid,val,ZE],zh _,(qf _ _).grown f (zh _) (fun k h=>by simp at h)⟩;intro i l;simp at l
 case round=>
  obtain⟨t,k,j,f,b,rfl,rfl,_,_,y,i,C,d,l,z,A,_,p⟩:=hrel;by_cases q:0<t.size
  ·have q:(t.size-1)%9+1<=t.size:=by have:=Nat.mod_le (t.size-1) 9;omega
   have q:(t.extract 0 ((t.size-1)%9+1)).data.toList=(L.drop k).take ((t.size-1)%9+1):=by rw[zdm,Q2,zdO,y.out]
   have u:(t.extract 0 ((t.size-1)%9+1)).size<=9:=by
    rw[Lib.size_eq,q,zX];omega
   have r:Qm (t.extract 0 ((t.size-1)%9+1)).data.toList=true:=by
    rw[q];exact zi4 B (fun x o=>zak (ZY o))
   have o:=zkp r;have x:ZE (t.extract 0 ((t.size-1)%9+1)).data.toList<1000000000:=by
    have g:(t.extract 0 ((t.size-1)%9+1)).data.toList.length<=9:=by rw[<-Lib.size_eq];exact u
    have o:10^(t.extract 0 ((t.size-1)%9+1)).data.toList.length<=10^9:=ZD om g;omega
   have D:k+((t.size-1)%9+1)<=L.length:=by have:=i.out;omega
   have o:k=0\/(t.size-1)%9+1=9:=by
    have g:=i.out;rcases C.out with h|h
    ·exact Or.inl h
    ·right;omega
   have B:=zf (zlG o D);have C:=zf q;have o:(t.extract ((t.size-1)%9+1) t.size).data.toList=L.drop (k+((t.size-1)%9+1)):=by
    rw[Lib.extract_to_end,y.out,Jn]
   have y:=zf o;have q:(L.length-(k+((t.size-1)%9+1)))%9=0:=by have:=i.out;omega
   have D:=zf q;have q:(t.extract ((t.size-1)%9+1) t.size).size=L.length-(k+((t.size-1)%9+1)):=by rw[Lib.size_eq,o,Za]
   have o:=zf q;have J:=p.size;go_wp2_with fail
   apply(zom _ _ u r).mono;rintro e q ⟨rfl,rfl⟩;have q:(t.extract 0 ((t.size-1)%9+1)).data.toList=t.data.toList.take ((t.size-1)%9+1):=by rw[zdm,Q2,zdO]
   rw[q]at x;have r:=zf (qm ZE (q.symm.trans C.out));go_wp2_with fail
   apply(zjY _ c.heap.size j f _ b d J om x l z).mono;rintro e c ⟨q,c,j,rfl,C,x,K,_,u,J⟩;go_wp2;go_roundw
   case rel=>exact⟨_,k+((t.size-1)%9+1),q,c,j,rfl,rfl,om,by rw[o.out];omega,y,o,Or.inr D.out,C,x,J,by rw[Hid,K,r.out,B.out,A.out],om,p.trans u⟩
   case measure=>show(t.extract _ _).size<t.size;rw[o.out];have:=i.out;omega
  ·have c:k=L.length:=by have:=i.out;omega
   have j:val b=ZE s.data.toList:=by rw[A.out,c,Zx,I.out]
   have i:=zf j;have k:=(ze0 d).2;have o:=row_of_owns d rfl;have j:b.length<=f:=by
    obtain⟨_,g|⟨_,_,_,c,_,_,f,_⟩⟩:=d;·exact absurd g.1 sp
    ·simp only[qp]at c;obtain⟨_,_,rfl⟩:=c;exact f
   go_wp2;go_ret2;refine⟨_,rfl,?_,p⟩;rw[<-i.out];exact⟨b,U32s.mk o k j,l,z,rfl⟩
open Go.RowKit Go.Sort Go.Lib
theorem zia(u:Nat)(hu64:u<18446744073709551616)(w:H)(htab:Lib.TabIs pg w "internal/strconv.uint64pow10" .u64 Lib.pow10Tab):
 C_ 137 #[it .u64 (u:Nat),i_ 10] w fun e w'=>e=Xa (gS ⟨(Lib.decDigits u).toArray⟩)/\b_ w w':=by
 by_cases hs:u<100
 ·go_enter func137,ntmps137
  go_wp2_with fail
  apply(Tryz.internal_strconv_small u hs _).mono;rintro e w' ⟨rfl,rfl⟩;go_wp2;go_ret;exact⟨rfl,qf _ _⟩
 ·have hu1:1<=u:=om;have hnd20:Lib.nDigits u<=20:=by have:=Lib.numDigits_eq u hu1 hu64;split at this<;>omega
  have hal:Tryz.prog.arrayLen 77=24:=by simp[Program.arrayLen,underlying77]
  have hsl1:∀W,(Instr.sliceAt 77 _ O (E (i_ (Lib.nDigits u:Int))) O).run pg W= .ok (V (E (y_ w 0)) (Lib.nDigits u) 24) W:=fun W=>by
   rw[run_sliceAt_array_h W 77 (y_ w 0) (by simp[Program.arrayLen,Program.elem,underlying77]) Xb (Lib.nDigits u:Int) om (by rw[hal];omega)];go_simp
  have hH0:=Lib.holds_zero0 w 77 (Lib.nDigits u) om;have hfmt:=Tryz.internal_strconv_formatBase10 w.heap.size 0 24 u (Array.replicate (Lib.nDigits u) 0) (w.alloc (cl Lib.zeros24 77)) hH0 (by rw[JB];exact Lib.lt_pow_nDigits u) hu64 (by rw[JB];omega);rw[JB]at hfmt;go_enter func137,ntmps137
  go_wp2_with fail
  apply(Tryz.internal_strconv_numDigits u hu1 hu64 _ (Lib.tabIs_alloc htab _)).mono;rintro e w' ⟨rfl,rfl⟩;go_wp2_with fail
  apply (zf hfmt).out.mono;rintro e w' ⟨rfl,k,v',dk,rfl,hF⟩;have hcv:(convert 46 9 (V (E (y_ w 0)) (Lib.nDigits u) 24)).run pg ((putRow (fun(b:UInt8)=>it .u8 b.toNat) (w.alloc (cl Lib.zeros24 77)) w.heap.size 0 dk).drewN k)= .ok (gS ⟨(Lib.decDigits u).toArray⟩) ((putRow (fun(b:UInt8)=>it .u8 b.toNat) (w.alloc (cl Lib.zeros24 77)) w.heap.size 0 dk).drewN k):=by
   have h:=run_convert_bytes_back ((putRow (fun(b:UInt8)=>it .u8 b.toNat) (w.alloc (cl Lib.zeros24 77)) w.heap.size 0 dk).drewN k) 46 9 5 (y_ w 0) 24 (Lib.decDigits u) underlying46 underlying5 underlying9 (fun j hj=>by
    rw[Lib.row_is_numeral hF j hj,Lib.add_plain,World.cell?_drewN];exact cell?_putRow (fun(b:UInt8)=>it .u8 b.toNat) _ w.heap.size 0 _ dk (zf hH0).out (by rw[hF.size,JB]) j (by rw[hF.size];rw[Lib.decDigits_length]at hj;exact hj))
   rw[Lib.decDigits_length]at h;exact h
  have hbel:b_ w ((putRow (fun(b:UInt8)=>it .u8 b.toNat) (w.alloc (cl Lib.zeros24 77)) w.heap.size 0 dk).drewN k):=by
   have hb1:b_ w (w.alloc (cl Lib.zeros24 77)):=(qf _ _).alloc (zh _) _;refine zda (hb1.trans ⟨rfl,rfl,rfl,?_,?_⟩);·simp[putRow,mapBlock]
   ·intro i hi;simp only[putRow,mapBlock,zby];rw[zO om]
  go_wp2;go_ret;exact⟨rfl,hbel⟩
theorem zjZ(u:Nat)(c:u<18446744073709551616)(w:H)(b:Lib.TabIs pg w "internal/strconv.uint64pow10" .u64 Lib.pow10Tab):
 C_ 78 #[it .u64 (u:Nat),i_ 10] w fun e w'=>e=Xa (gS ⟨(Lib.decDigits u).toArray⟩)/\b_ w w':=by
 go_enter func78,ntmps78
 go_wp2_with fail
 apply(zia u c _ b).mono;rintro e w' ⟨rfl,b⟩;go_wp2;go_ret;exact⟨rfl,b⟩
end

section
open Go.RowKit
variable {A w w':H}{B b c d e f g k n o off:Nat}{ds xs:N_}{l:U_}{pt:Nat->Addr}{s:ByteArray}
theorem Tryz.sizeBuilder:(Tryz.prog.info? 148).map (·.size)=E 2:=by kernel_rfl
theorem Tryz.info5:(Tryz.prog.info? 5).map (fun i=>(i.zero,i.size,i.bytes))=E (E (it .u8 0),1,1):=by kernel_rfl
theorem Tryz.liesBuilder:Go.liesAt pg Tryz.prog.depth 148 (2/Tryz.prog.cellsOf 148) 0 148 1=true:=kr
theorem zgg(b:Nat)(w:H)(c:w.cell? (Xd b 0 O)=E (p_ b 0)):
 C_ 138 #[p_ b 0] w fun e w'=>e=Xa (tp #[])/\w'=w:=by
 have⟨_,c,_⟩:=Option.map_eq_some_iff.1 Tryz.sizeBuilder;go_enter func138,ntmps138
 go_wp2;rw[Lib.run_neq_ptr_same w _ underlying146 c];go_wp2;go_end0
 exact⟨rfl,rfl⟩
theorem zfN(b:Nat)(w:H)(c:w.cell? (Xd b 0 O)=E (pn O))(d:w.shape? b=E (148,2))(f:w.frozen? (Xd b 0 O)=false):
 C_ 138 #[p_ b 0] w fun e w'=>e=Xa (tp #[])/\w'=w.setCell (Xd b 0 O) (p_ b 0):=by
 have⟨_,c,f⟩:=Option.map_eq_some_iff.1 Tryz.sizeBuilder;go_enter func138,ntmps138
 go_wp2;rw[Lib.run_to_unsafe w ⟨b,0,O⟩ underlying146 underlying282 c (by rw[f];decide) d (Nat.zero_lt_succ 1)];simp only[Result.andThen];rw[Oper.upon_value];go_wp2;rw[run_callFunc_extern func204 kr kr kr kr];rw[Lib.run_noEscape];simp only[Result.andThen];rw[Oper.upon_value];go_wp2;rw[Lib.run_from_unsafe w ⟨b,0,O⟩ underlying282 underlying146 c d Tryz.liesBuilder];simp only[Result.andThen];rw[Oper.upon_value];go_wp2;go_end0
 exact⟨rfl,rfl⟩
theorem zmv(B b:Nat)(c:List Value)(w:H)(h:Lib.IsBuilderF 148 5 B b c w):
 C_ 138 #[p_ b 0] w fun e w'=>e=Xa (tp #[])/\(Lib.BuilderAtF 148 5 B b (p_ b 0) c w'/\Below B w w'/\Lib.OthersKept 5 (E b) w w'):=by
 rcases h with h|h
 ·apply(zfN b w h.cell0 h.shape h.frozen0).mono;rintro e w' ⟨rfl,rfl⟩;exact⟨rfl,h.used _,(qf B w).setCell h.1 _,(Lib.OthersKept.refl _ _ w).setCell (Xd b 0 O) rfl _⟩
 ·apply(zgg b w h.cell0).mono;rintro e w' ⟨rfl,rfl⟩;exact⟨rfl,h,qf B _,Lib.OthersKept.refl _ _ _⟩
theorem zeU(B b:Nat)(c:List Value)(s:ByteArray)(w:H)(h:Lib.IsBuilderF 148 5 B b c w)(f:c.length+s.size<=140737488355328)(d:B<=w.heap.size):
 C_ 79 #[p_ b 0,gS s] w fun e w'=>e=Xa (tp #[i_ s.size,.nilIface])/\(Lib.BuilderAtF 148 5 B b (p_ b 0) (c++Lib.strCells s) w'/\Below B w w'/\Lib.OthersKept 5 (E b) w w'):=by
 have⟨u,j,m,o,t⟩:=Zn Tryz.info5;go_enter func79,ntmps79
 go_wp2_with fail
 apply(zmv B b c _ h).mono;rintro e d ⟨rfl,g,i,q⟩;have⟨l,v,f,k,r⟩:=g;have g:d.cell? (Xd b 0 O)=E (p_ b 0):=by rw[zdn f];rfl
 have g:d.cell? (Xd b 1 O)=E v:=by rw[zdn f];rfl
 go_wp2_with (at_builtin;refine Lib.wpList_append_own_stringF _ rfl _ _ 46 9 rfl B 5 u underlying46 underlying9 j m o t _ _ _ rfl k s rfl ?c3 ?c4 ?c5 ?_)
 case c3=>unfold maxLen;omega
 case c4=>omega
 case c5=>have:=i.size;omega
 intro t g m j _;have o:b<d.heap.size:=by
  rcases Qc b d.heap.size with d|d
  ·exact d
  ·simp[zbf d]at f
 have d:g.heap[b]? =E (cl #[p_ b 0,v] 148 (0,0)):=by
  rw[j.block b o (fun e=>r e.symm)];exact f
 have f:g.cell? (Xd b 0 O)=E (p_ b 0):=by rw[zdn d];rfl
 have f:g.cell? (Xd b 1 O)=E v:=by rw[zdn d];rfl
 have f:=Lib.frozen_of_heap d 1;obtain⟨g,o,f,rfl⟩:∃g o f,t=V g o f:=by
  rcases m.2 with ⟨g,_⟩|⟨_,f,_,_,g,_⟩
  ·exact⟨_,_,_,g⟩
  ·exact⟨_,_,_,g⟩
 go_wp2;go_ret2;refine⟨rfl,?_,?_,(q.grown j (Lib.ownsRowF_kind k)).setCell (Xd b 1 O) rfl _⟩;·exact Lib.BuilderAtF.put l d (by simpa[Lib.strCells_length]using m) dc
 ·exact(i.grown j (by have:=i.size;omega) (fun d c=>(k.lt d c).1)).setCell l _
def zbR:N_->Nat
 |[]=>0
 |d::ds=>d+1000000000*zbR ds
theorem zmw(a b:N_):zbR (a++b)=zbR a+1000000000^a.length*zbR b:=by
 induction a with
 |nil=>simp[zbR]
 |cons d c d=>
  simp only[ZZ,zbR,qi,d,Zv,Zs];rw[Z5 (1000000000^c.length) 1000000000,Zt];omega
theorem zqp{L K:Nat}(h1:1000000000^L<=n)(h2:n<4294967296^K):L<K*2:=by
 rcases Qc L (K*2)with h|h
 ·exact h
 ·exfalso
  have b:1000000000^(K*2)<=1000000000^L:=ZD om h;have b:(1000000000:Nat)^(K*2)=(1000000000^2)^K:=by rw[Z5,zew]
  have b:(4294967296:Nat)^K<=(1000000000^2)^K:=Nat.pow_le_pow_left dc K;omega
theorem zny(w:H)(v:Value)(n K:Nat)(hv:NatV w v n)(R:n≠0)(hn:n<4294967296^K)(hK:K<=100000000):
 C_ 77 #[v] w fun e w'=>∃x b,e=Xa x/\U32s w' x b/\(∀p∈b,p<1000000000)/\zbR b=n/\(∀k,b.length=k+1->b.getD k 0≠0)/\b.length<=K*2/\b_ w w':=by
 have⟨o,A,hd,ht,af,_⟩:=J9 hv hn;have⟨i0,q,aP,aQ,aR⟩:=Zn Xu
 go_enter func77,ntmps77
 go_wp2_with fail
 apply(zfG _ _ o A om).mono;rintro e u ⟨x,rfl,⟨_,I,rfl,_,hr⟩,a4⟩;obtain⟨g,rfl,hg,aw,aI,aq⟩:=hr (fun e=>R (by rw[<-af,e];rfl));go_wp2;go_loopg [3,4] n (fun k pv lv wr=>∃(c b:N_) (l:A_) (m:Nat),pv=V l b.length m/\lv=V (E (Xd g 0 O)) c.length I/\c.length<=o.length/\Row wr g 0 c/\zcj wr g 0 o.length/\Dig c/\Top c/\Hid (val c=k)/\g<wr.heap.size/\u.heap.size<=wr.heap.size/\wr.ownsRow u.heap.size 127 1 (V l b.length m) b.length (b.map encD)/\
  (∀p∈b,p<1000000000)/\Hid (zbR b+1000000000^b.length*k=n)/\Hid (k=0->∀C,b.length=C+1->b.getD C 0≠0)/\b.length<=K*2/\Hid (b≠ []\/k=n)/\b_ w wr)
 case atStart=>exact⟨o,[],O,0,rfl,rfl,zh _,aI,aq,hd,ht,af,aw,zh _,zaf _ _ _ _,fun p X=>by simp at X,by simp[Hid,zbR],fun h=>absurd h R,qo _,Or.inr rfl,a4⟩
 case round=>
  obtain⟨c,b,l,m,rfl,rfl,_,aJ,a7,ak,aM,ad,_,_,U,a8,Y,aC,aG,T,a5⟩:=hrel;by_cases s:gk=0
  ·have M:=aM.zero.1 (by rw[ad.out];exact s);subst M;have D:=zf s;go_wp2;go_ret;have a9:=Y.out;rw[D.out,Ql,qV]at a9;have aH:b≠ []:=by
    rcases T.out with h|h
    ·exact h
    ·exact absurd (D.out.symm.trans h).symm R
   refine⟨_,b,rfl,?_,a8,a9,aC.out D.out,aG,a5⟩;have aO:V l b.length m≠V_:=by
    intro e;simp only[qp]at e;exact aH (Qk.1 e.2.1)
   have⟨g2,_,B,aE,_,av,Z,_⟩:=owns_parts U aO;simp only[qp]at B;obtain⟨rfl,_,rfl⟩:=B;exact⟨_,_,rfl,aE,fun _=>⟨g2,0,rfl,av,Z⟩⟩
  ·have a0:=ad.out;have M:c≠ []:=fun e=>s (by rw[<-a0,e];rfl)
   have aS:=ZC.2 M;have aT:b.length<K*2:=by
    refine zqp ?_ hn;have h1:=Y.out;have J:1000000000^b.length*1<=1000000000^b.length*gk:=Zr _ (Z3 s);omega
   go_wp2_with fail
   apply(zfF _ g 0 I 1000000000 c om om om om aJ (fun t q=>a7 t om) ak).mono;rintro e i ⟨d,r,rfl,aa,_,al,Z,f,ae⟩;have W:i.ownsRow u.heap.size 127 1 (V l b.length m) b.length (b.map encD):=by
    apply U.kept ⟨f.os,f.tape,f.output,jm f.size.symm,fun k _ T=>f.block k (fun e=>T (by rw[e]))⟩;right
    intro e;have:=U.lt g e;omega
   have L:=a5.trans (f.below hg);have a3:=zf (show i.heap.size=wr.heap.size from f.size);go_wp2_with (at_builtin;refine zcU _ rfl _ _ 61 rfl u.heap.size 127 i0 (it .u32 0) 1 4 underlying61 q aP aQ aR rfl dc (V l b.length m) b.length (b.map encD) rfl (W.alloc _) (y_ i 0) 1 1 [encD r] rfl rfl ?c1 ?c2 mo om (by have:=a3.out;simp;omega) ?_)
   case c1=>exact JC _ _ _
   case c2=>intro aX A;simp at A;subst A;rfl
   intro v3 j z N aF
   have e2:b.map encD ++ [encD r]=(b ++ [r]).map encD:=sp;rw[e2]at z;have⟨_,ai,B,_,_,_,_,_⟩:=owns_parts z (fun e=>aF e);subst B;have aU:=a3.out;have ay:E g≠Value.ownBlock (V l b.length m):=by
    intro e;have:=W.lt g e.symm;omega
   have a6:j.heap[g]? =i.heap[g]?:=by
    rw[N.block g so ay];exact qH _ _ _ om
   have ab:Row j g 0 d:=fun t q=>(Zj a6).trans (Z t q)
   have au:zcj j g 0 o.length:=fun t q=>(qw a6).trans ((f.free a7) t q)
   have aK:=N.size;have aV:i.heap.size<j.heap.size:=by simp at aK;omega
   have y:(b ++ [r]).length=b.length+1:=sp;have aA:gk/1000000000=val d:=by rw[<-a0,ae,Nat.mul_add_div om,jH aa,qV]
   have aB:gk%1000000000=r:=by rw[<-a0,ae,Nat.mul_add_mod,Jk aa]
   have a1:=zf aB;go_wp2_with fail
   apply(trim_any j g 0 I c.length d om om om ab).mono;rintro e w4 ⟨rfl,rfl⟩;have aW:=zgu d c.length;have aD:(d.take (Jr d c.length)).length=Jr d c.length:=by rw[zX];omega
   have a2:=zf aD;go_wp2;go_roundg (gk/1000000000)
   case measure=>exact Nat.div_lt_self (Z3 s) om
   case rel=>
    rw[<-y]at z;refine⟨d.take (Jr d c.length),b ++ [r],_,ai,by rw[y],by rw[a2.out],by rw[a2.out];omega,ab.take _,au,al.take _,zg8 _ _ om,?_,om,om,z,?_,?_,?_,om,Or.inl sp,(L.alloc L.size _).grown N (by have:=L.size;simp;omega) (fun k h=>by have:=W.lt k h;have:=a4.size;omega)⟩;·rw[Hid,val_trimL _ _ om,zP om,(zf aA).out]
    ·intro p X;rcases zU.1 X with h|h
     ·exact a8 p h
     ·simp at h;omega
    ·have J:=Jz gk 1000000000;rw[Hid,zmw,y,Zv];simp only[zbR,Ql,qV];rw[Zt,<-a1.out,zb3,<-Zs,Nat.mod_add_div];exact Y.out
    ·intro hz C hj;have az:C=b.length:=by rw[y]at hj;omega
     subst az;have J:=Jz gk 1000000000;rw[hz]at J;have h3:r=gk:=by rw[<-a1.out];omega
     simp;omega
theorem zos(K:Nat)(hK:K+K<=1073741822)(hO:zfj (K+K))(w:H)(x y:Value)(p r:Int)(q s:Nat)(h:Qa w x p q)(k:Qa w y r s)(i:r≠0)(b:p.natAbs<4294967296^K)(hr:r.natAbs<4294967296^K)(hq:q<4294967296^K)(hs:s<4294967296^K):
 C_ 61 #[x,y] w fun e w'=>∃t,e=Xa t/\Qa w' t ((p*s*r.sign)/(Nat.gcd (p*s*r.sign).natAbs (q*r.natAbs):Int)) ((q*r.natAbs)/Nat.gcd (p*s*r.sign).natAbs (q*r.natAbs))/\b_ w w':=by
 have d:=h;have k0:=k;obtain⟨L,I,R,M,J,T,N,rfl,_,_,_,g,_⟩:=h.parts;obtain⟨m,B,D,C,A,Y,W,rfl,f,c,_,_,_⟩:=k.parts;have Z:zy w (ag #[G m,V B D C]) r:=⟨m,_,rfl,f,c⟩;have o:QQ (((w.alloc (cl #[G L,V I R M,V J T N] 66)).alloc (cl #[G m,V B D C,V A Y W] 66)).alloc (cl #[G false,V_,V_] 66)) w.heap.size (G L) (V I R M) (V J T N):=((Xn _ _ _ _ _).alloc _).alloc _;have u:QQ (((w.alloc (cl #[G L,V I R M,V J T N] 66)).alloc (cl #[G m,V B D C,V A Y W] 66)).alloc (cl #[G false,V_,V_] 66)) (w.heap.size+1) (G m) (V B D C) (V A Y W):=(Xv _ _ _ _ _ _).alloc _;have X:QQ (((w.alloc (cl #[G L,V I R M,V J T N] 66)).alloc (cl #[G m,V B D C,V A Y W] 66)).alloc (cl #[G false,V_,V_] 66)) (w.heap.size+1+1) (G false) (V_) (V_):=QQ.new2 _ _ _ _ _ _ _;have z:=zbt w (cl #[G L,V I R M,V J T N] 66) (cl #[G m,V B D C,V A Y W] 66) (cl #[G false,V_,V_] 66);have hZ:(p*s*r.sign).natAbs<4294967296^(K+K):=by
  have c:=znl b hs;have f:=Int.natAbs_sign_of_ne_zero i;rw[zbv,f,jM];exact c
 have hN:=ziZ hq hr;have aK:q*r.natAbs≠0:=Nat.pos_iff_ne_zero.1 (QE g om);go_enter func61,ntmps61
 go_wp2_with fail
 refine(znk _ _ _ p r q s K K om (((d.alloc _).alloc _).alloc _) (((k0.alloc _).alloc _).alloc _) b hs).mono ?_;rintro e c ⟨_,rfl,f,b⟩;obtain⟨l,g,j,i,rfl,_,_⟩:=f.parts;have U:=o.below b;have o:=u.below b;have u:=X.below b;have a0:=(((d.alloc _).alloc _).alloc _).below b;have d:=(((k0.alloc _).alloc _).alloc _).below b;have a4:=(((Z.alloc _).alloc _).alloc _).below b;have X:=z.trans (b.mono z.size);have z:=U.alloc (cl #[G l,V g j i] 64);have U:=o.alloc (cl #[G l,V g j i] 64);have Z:=u.alloc (cl #[G l,V g j i] 64);have a1:=a0.alloc (cl #[G l,V g j i] 64);have a0:=d.alloc (cl #[G l,V g j i] 64);have a5:=a4.alloc (cl #[G l,V g j i] 64);have a4:=f.alloc (cl #[G l,V g j i] 64);have f:Zh (c.alloc (cl #[G l,V g j i] 64)) c.heap.size (G l) (V g j i):=Xm _ _ _ _;have d:b_ w (c.alloc (cl #[G l,V g j i] 64)):=X.alloc X.size _;have b:=u.2.2.2.2.2.2;have b:=o;obtain⟨j0,j1,j2,j3,j4,j5,j6⟩:=b;go_wp2_with fail
 refine(zoj _ _ r s a0).mono ?_;rintro e wS ⟨rfl,b⟩;have aL:=z.below b;have aM:=U.below b;have aN:=Z.below b;have aO:=a1.below b;have aQ:=a5.below b;have aP:=a4.below b;have ay:=f.below b;have a7:=d.trans (b.mono d.size);by_cases b:r<0
 ·have U:=Qi b;have a6:p*s*r.sign=-(p*s):=by rw[U,zbc,zet]
  have aJ:=zf a6;have b:=ay;obtain⟨Z,u,d2,d3,d4⟩:=b;rw[U];have aR:=zf U;go_wp2_with fail
  refine(zau _ _ (p*s) aP).mono ?_;rintro e wT ⟨_,rfl,a0,o⟩;obtain⟨b,d,z,f,rfl,_,_⟩:=a0.parts;have a4:=aL.below o;have a5:=aM.below o;have a8:=aN.below o;have aa:=aO.below o;have ab:=aQ.below o;have a9:=ay.below o;have a1:=a7.trans (o.mono a7.size);obtain⟨Z,u,d2,d3,d4⟩:=a9;have e1:(wT.setCell (y_ c 0) (G b)).cell? (y_ c 1)=E (V g j i):=by rw[zA _ _ _ _ sp];exact u
  have o:QQ ((wT.setCell (y_ c 0) (G b)).setCell (y_ c 1) (V d z f)) w.heap.size (G L) (V I R M) (V J T N):=(a4.far om).far om;have u:QQ ((wT.setCell (y_ c 0) (G b)).setCell (y_ c 1) (V d z f)) (w.heap.size+1) (G m) (V B D C) (V A Y W):=(a5.far om).far om;have ap:QQ ((wT.setCell (y_ c 0) (G b)).setCell (y_ c 1) (V d z f)) (w.heap.size+1+1) (G false) (V_) (V_):=(a8.far om).far om;have aB:Qa ((wT.setCell (y_ c 0) (G b)).setCell (y_ c 1) (V d z f)) (ag #[G L,V I R M,V J T N]) p q:=(aa.setCell Z sp _).setCell e1 sp _;have aI:zy ((wT.setCell (y_ c 0) (G b)).setCell (y_ c 1) (V d z f)) (ag #[G m,V B D C]) r:=(ab.setCell Z sp _).setCell e1 sp _;have aH:zy ((wT.setCell (y_ c 0) (G b)).setCell (y_ c 1) (V d z f)) (ag #[G b,V d z f]) (p*s*r.sign):=by rw[aJ.out];exact(a0.setCell Z sp _).setCell e1 sp _
  have A:Zh ((wT.setCell (y_ c 0) (G b)).setCell (y_ c 1) (V d z f)) c.heap.size (G b) (V d z f):=by
   refine⟨?_,zN _ _ _ e1,by simpa using d2,by simpa using d3,by simpa using d4⟩;rw[zA _ _ _ _ sp];exact zN _ _ _ Z
  have a0:b_ w ((wT.setCell (y_ c 0) (G b)).setCell (y_ c 1) (V d z f)):=(a1.setCell so _).setCell so _;have az:=A;obtain⟨i0,i1,i2,i3,i4⟩:=az;have ah:=o;obtain⟨u0,u1,u2,u3,u4,u5,u6⟩:=ah;have an:=u;obtain⟨v0,v1,v2,v3,v4,v5,v6⟩:=an;go_wp2;go_region_held (fun w'=>w'.cell? (y_ w 0)=E (G L)/\w'.cell? (y_ w 1)=E (V I R M)/\w'.cell? (y_ w 2)=E (V J T N)/\w'.cell? (x_ w 0)=E (G m)/\w'.cell? (x_ w 1)=E (V B D C)/\w'.cell? (y_ c 0)=E (G b)/\w'.cell? (y_ c 1)=E (V d z f)) (first|(refine⟨?_,?_,?_,?_,?_,?_,?_⟩<;>(rw[far,far,far]<;>first|assumption|omega))|go_keep) (first|(go_at_call 39;refine(zie (K+K) hK hO _ _ _ (p*s*r.sign) (q*r.natAbs) (((aH.drewN 1).below b).below d |>.below f) a9 aK hZ hN).mono ?_;rintro e wE ⟨tE,rfl,aa,z⟩;obtain⟨b2,a2,l2,k2,a3,l3,k3,rfl,aC,aD,aE,aF,aG⟩:=aa.parts;have ad:=(((o.drew.below b).below d).below f).below z;obtain⟨x0,x1,x2,x3,x4,x5,x6⟩:=ad;have aj:=(((u.drew.below b).below d).below f).below z;obtain⟨y0,y1,y2,y3,y4,y5,y6⟩:=aj;have au:=(((A.drew.below b).below d).below f).below z;obtain⟨z0,z1,z2,z3,z4⟩:=au;have aq:=(((ap.drew.below b).below d).below f).below z;obtain⟨W,Y,Z,f0,f1,f2,g0⟩:=aq)|(go_at_call 114;refine(times_any _ _ _ q r.natAbs K K (X.below d) a8 hq hr om).mono ?_;rintro e wD ⟨tD,rfl,a9,f⟩;have ae:=((o.drew.below b).below d).below f;obtain⟨m0,m1,m2,m3,m4,m5,m6⟩:=ae;have ak:=((u.drew.below b).below d).below f;obtain⟨n0,aU,n2,aV,aW,n5,n6⟩:=ak;have av:=((A.drew.below b).below d).below f;obtain⟨o0,o1,o2,o3,o4⟩:=av)|(go_at_call 72;refine(zfk _ _ r ((aI.drewN 1).below b)).mono ?_;rintro e wC ⟨tC,rfl,a8,d⟩;have af:=(o.drew.below b).below d;obtain⟨q0,q1,q2,q3,q4,q5,q6⟩:=af;have al:=(u.drew.below b).below d;obtain⟨r0,r1,r2,aX,r4,r5,r6⟩:=al;have aw:=(A.drew.below b).below d;obtain⟨s0,s1,s2,s3,s4⟩:=aw)|(go_at_call 111;refine(zic _ _ p q (by exact aB.drew)).mono ?_;rintro e wB ⟨tB,rfl,X,b⟩;have ab:=o.drew.below b;obtain⟨j0,j1,j2,j3,j4,j5,j6⟩:=ab;have ai:=u.drew.below b;obtain⟨t0,t1,t2,t3,t4,t5,t6⟩:=ai;have ar:=A.drew.below b;obtain⟨k0,k1,k2,k3,k4⟩:=ar))
  have a1:=a0.trans ((ze1 b).mono a0.size);have a4:=a1.trans (d.mono a1.size);have a5:=a4.trans (f.mono a4.size);have ax:=a5.trans (z.mono a5.size);go_wp2;exact zH (v:=ag #[G b2,V a2 l2 k2,V a3 l3 k3]) (by simp[results,results61,go_sem,W,Y,Z]) rfl ⟨_,rfl,zbe aC aD aE aF aG W Y Z,
   ((ax.setCell so _).setCell so _).setCell so _⟩
 ·have aS:0<r:=om;have U:=Qs aS;have a6:p*s*r.sign=p*s:=by rw[U,zet]
  have aJ:=zf a6;have o:=aL;have u:=aM;have ap:=aN;have aB:=aO;have aI:=aQ;have aH:zy wS (ag #[G l,V g j i]) (p*s*r.sign):=by rw[a6];exact aP
  have A:=ay;have a0:=a7;rw[U];have aR:=zf U;have az:=A;obtain⟨i0,i1,i2,i3,i4⟩:=az;have ah:=o;obtain⟨u0,u1,u2,u3,u4,u5,u6⟩:=ah;have an:=u;obtain⟨v0,v1,v2,v3,v4,v5,v6⟩:=an;go_wp2;go_region_held (fun w'=>w'.cell? (y_ w 0)=E (G L)/\w'.cell? (y_ w 1)=E (V I R M)/\w'.cell? (y_ w 2)=E (V J T N)/\w'.cell? (x_ w 0)=E (G m)/\w'.cell? (x_ w 1)=E (V B D C)/\w'.cell? (y_ c 0)=E (G l)/\w'.cell? (y_ c 1)=E (V g j i)) (first|(refine⟨?_,?_,?_,?_,?_,?_,?_⟩<;>(rw[far,far,far]<;>first|assumption|omega))|go_keep) (first|(go_at_call 39;refine(zie (K+K) hK hO _ _ _ (p*s*r.sign) (q*r.natAbs) (((aH.drewN 1).below b).below d |>.below f) a9 aK hZ hN).mono ?_;rintro e wE ⟨tE,rfl,aa,z⟩;obtain⟨b2,a2,l2,k2,a3,l3,k3,rfl,aC,aD,aE,aF,aG⟩:=aa.parts;have ad:=(((o.drew.below b).below d).below f).below z;obtain⟨x0,x1,x2,x3,x4,x5,x6⟩:=ad;have aj:=(((u.drew.below b).below d).below f).below z;obtain⟨y0,y1,y2,y3,y4,y5,y6⟩:=aj;have au:=(((A.drew.below b).below d).below f).below z;obtain⟨z0,z1,z2,z3,z4⟩:=au;have aq:=(((ap.drew.below b).below d).below f).below z;obtain⟨W,Y,Z,f0,f1,f2,g0⟩:=aq)|(go_at_call 114;refine(times_any _ _ _ q r.natAbs K K (X.below d) a8 hq hr om).mono ?_;rintro e wD ⟨tD,rfl,a9,f⟩;have ae:=((o.drew.below b).below d).below f;obtain⟨m0,m1,m2,m3,m4,m5,m6⟩:=ae;have ak:=((u.drew.below b).below d).below f;obtain⟨n0,aU,n2,aV,aW,n5,n6⟩:=ak;have av:=((A.drew.below b).below d).below f;obtain⟨o0,o1,o2,o3,o4⟩:=av)|(go_at_call 72;refine(zfk _ _ r ((aI.drewN 1).below b)).mono ?_;rintro e wC ⟨tC,rfl,a8,d⟩;have af:=(o.drew.below b).below d;obtain⟨q0,q1,q2,q3,q4,q5,q6⟩:=af;have al:=(u.drew.below b).below d;obtain⟨r0,r1,r2,aX,r4,r5,r6⟩:=al;have aw:=(A.drew.below b).below d;obtain⟨s0,s1,s2,s3,s4⟩:=aw)|(go_at_call 111;refine(zic _ _ p q (by exact aB.drew)).mono ?_;rintro e wB ⟨tB,rfl,X,b⟩;have ab:=o.drew.below b;obtain⟨j0,j1,j2,j3,j4,j5,j6⟩:=ab;have ai:=u.drew.below b;obtain⟨t0,t1,t2,t3,t4,t5,t6⟩:=ai;have ar:=A.drew.below b;obtain⟨k0,k1,k2,k3,k4⟩:=ar))
  have a1:=a0.trans ((ze1 b).mono a0.size);have a4:=a1.trans (d.mono a1.size);have a5:=a4.trans (f.mono a4.size);have ax:=a5.trans (z.mono a5.size);go_wp2;exact zH (v:=ag #[G b2,V a2 l2 k2,V a3 l3 k3]) (by simp[results,results61,go_sem,W,Y,Z]) rfl ⟨_,rfl,zbe aC aD aE aF aG W Y Z,
   ((ax.setCell so _).setCell so _).setCell so _⟩
def Tab (w:H):Prop:=Lib.TabIs pg w "internal/strconv.uint64pow10" .u64 Lib.pow10Tab
theorem Tab.below(h:Tab w)(hb:b_ w w'):Tab w':=by
 unfold Tab Lib.TabIs World.var? at *;cases hg:Tryz.prog.globalNamed "internal/strconv.uint64pow10" with
 |none=>rw[hg]at h;simp at h
 |some g=>
  rw[hg]at h;simp only[Option.bind_some]at h⊢;have c:g<w.heap.size:=by
   rcases Qc g w.heap.size with b|b
   ·exact b
   ·rw[zbf b]at h;simp at h
  rw[hb.block g c];exact h
theorem zi5{o:Obj}(h:w.heap[g]? =E o):g<w.heap.size:=by
 rcases Qc g w.heap.size with b|b
 ·exact b
 ·rw[zbf b]at h;simp at h
theorem zfr{T:Nat}{p:Value}{c:List Value}(h:Lib.BuilderAtF T e B b p c w)(hb:b_ w w'):Lib.BuilderAtF T e B b p c w':=by
 have⟨f,v,d,⟨g,c⟩,i⟩:=h;refine⟨f,v,(hb.block b (zi5 d)).trans d,⟨g,?_⟩,i⟩;rcases c with c|⟨g,f,i,j,m,k,d,l⟩
 ·exact Or.inl c
 ·exact Or.inr ⟨g,f,i,j,m,k,(hb.block g (zi5 d)).trans d,l⟩
theorem zfs{T:Nat}{c:List Value}(h:Lib.IsBuilderF T e B b c w)(hb:b_ w w'):Lib.IsBuilderF T e B b c w':=by
 rcases h with h|h
 ·exact Or.inl (zfr h hb)
 ·exact Or.inr (zfr h hb)
theorem zdo(l:U_):(ByteArray.mk l.toArray).size=l.length:=by simp[ByteArray.size]
theorem JW(a b:U_):(ByteArray.mk a.toArray)++(ByteArray.mk b.toArray)=ByteArray.mk (a++b).toArray:=by
 apply ByteArray.ext;simp
def Cap:Nat:=4294967296^10
theorem cap_ten:Cap<10^97:=by unfold Cap;decide
theorem zbS(k:Nat):∀n,n<10^k->0<k->(Lib.decDigits n).length<=k:=by
 induction k with
 |zero=>intro n _ h;omega
 |succ k e=>
  intro n c _;by_cases h:n<10
  ·rw[Lib.decDigits,dif_pos h];simp
  ·have d:0<k:=by
    rcases Qd k with b|b
    ·subst b;simp at c;omega
    ·exact b
   have b:=e (n/10) (by rw[Zv]at c;omega) d;rw[Lib.decDigits,dif_neg h];simp;omega
theorem zrH(n:Nat):0<(Lib.decDigits n).length:=by
 rw[Lib.decDigits];split<;>simp
theorem dec_cap(h:n<Cap):(Lib.decDigits n).length<=97:=zbS 97 n (zbr h cap_ten) om
theorem itoa_cap{z:Int}(b:z.natAbs<Cap):(Lib.itoa z).length<=98:=by
 unfold Lib.itoa;split
 ·have:=dec_cap b;simp;omega
 ·have e:z.toNat=z.natAbs:=om;rw[e];have:=dec_cap b;omega
def padL:Nat->Nat->U_
 |0,_=> []
 |k+1,r=>padL k (r/10) ++ [UInt8.ofNat (48+r%10)]
theorem zrI(q:Nat)(d:q≠0)(k:Nat):∀r,r<10^k->Lib.decDigits (q*10^k+r)=Lib.decDigits q++padL k r:=by
 induction k with
 |zero=>
  intro r b;have c:r=0:=by simpa using b
  subst c;simp[padL]
 |succ k c=>
  intro r b;have e:r/10<10^k:=by rw[Zv]at b;omega
  have b:=c (r/10) e;have c:0<10^k:=zbb om;have c:10^k<=q*10^k:=Jd _ (Z3 d);have e:q*10^(k+1)=q*10^k*10:=by rw[Zv,Zt]
  rw[e];generalize q*10^k=X at *;generalize 10^k=Y at *;rw[Lib.decDigits,dif_neg om,show(X*10+r)/10=X+r/10 by omega,show(X*10+r)%10=r%10 by omega,b,padL,Zl]
theorem zot(k:Nat):padL k 0=List.replicate k 48:=by
 induction k with
 |zero=>rfl
 |succ k b=>rw[padL,Nat.zero_div,b,List.replicate_succ'];rfl
theorem zrJ(k:Nat):∀r,0<k->r<10^k->padL k r=List.replicate (k-(Lib.decDigits r).length) 48++Lib.decDigits r:=by
 induction k with
 |zero=>intro r h;omega
 |succ k e=>
  intro r _ c;by_cases h:r<10
  ·rw[Lib.decDigits,dif_pos h,padL,show r/10=0 by omega,zot,show r%10=r by omega];simp
  ·have d:0<k:=by
    rcases Qd k with b|b
    ·subst b;simp at c;omega
    ·exact b
   have b:r/10<10^k:=by rw[Zv]at c;omega
   rw[padL,e (r/10) d b,Lib.decDigits.eq_1 r,dif_neg h,Zl,zM];have e:k+1-((Lib.decDigits (r/10)).length + [UInt8.ofNat (48+r%10)].length)=k-(Lib.decDigits (r/10)).length:=sp;rw[e]
def JD (l:N_):U_:=if l= []then []else Lib.decDigits (zbR l)
theorem zou(d:Nat):JD [d]=Lib.decDigits d:=by simp[JD,zbR]
theorem znz(d:Nat)(l:N_)(b:d<1000000000)(e:l≠ [])(c:zbR l≠0):JD (d::l)=JD l++(List.replicate (9-(Lib.decDigits d).length) 48++Lib.decDigits d):=by
 rw[JD,zO sp,JD,zO e,<-(zrJ 9 d om om),<-(zrI (zbR l) c 9 d om),zbR,Nat.add_comm,Z5]
theorem zqq:∀(l:N_) (k:Nat),l.length=k+1->l.getD k 0≠0->zbR l≠0:=by
 intro l;induction l with
 |nil=>intro k b;simp at b
 |cons c l d=>
  intro k b c;cases k with
  |zero=>simp at c;simp[zbR];omega
  |succ k=>have:=d k (by simpa using b) (by simpa using c);simp only[zbR];omega
theorem zov{b:N_}(c:∀k,b.length=k+1->b.getD k 0≠0)(k:Nat)(d:k<b.length):zbR (b.drop k)≠0:=by
 obtain⟨m,hm⟩:∃m,b.length=m+1:=⟨b.length-1,om⟩;apply zqq (b.drop k) (m-k) so;have:=c m hm;rw[zk]at this⊢;rw[Jo,show k+(m-k)=m by omega];exact this
theorem zkt{b:N_}(c:k<b.length):b.drop k=b.getD k 0::b.drop (k+1):=by
 rw[jt c];simp[c]
theorem zi6{b:N_}(e:∀p∈b,p<1000000000)(d:∀k,b.length=k+1->b.getD k 0≠0)(k:Nat)(c:k+1<b.length):
 JD (b.drop k)=JD (b.drop (k+1))++(List.replicate (9-(Lib.decDigits (b.getD k 0)).length) 48++Lib.decDigits (b.getD k 0)):=by
 have hm:b.getD k 0<1000000000:=by
  rw[zk,zg om];exact e _ (zJ _)
 rw[zkt om];exact znz _ _ hm (by intro e;have:=qm List.length e;simp at this;omega) (zov d _ c)
theorem zi7{b:N_}(k:Nat)(c:k+1=b.length):JD (b.drop k)=Lib.decDigits (b.getD k 0)/\JD (b.drop (k+1))= []:=by
 rw[zkt om,QP om];exact⟨zou _,rfl⟩
theorem zlI{b:N_}(d:∀p∈b,p<1000000000)(k:Nat)(c:k<b.length):b.getD k 0<1000000000:=by
 rw[zk,zg c];exact d _ (zJ _)
theorem zgY(c:Nat):Lib.repeatL [48] c=List.replicate c 48:=by
 induction c with
 |zero=>rfl
 |succ c b=>rw[Lib.repeatL,b,List.replicate_succ];rfl
theorem zdd(a b:U_):Lib.byteCells a++Lib.strCells ⟨b.toArray⟩=Lib.byteCells (a++b):=by simp[Lib.byteCells,Lib.strCells]
theorem zow{b:N_}(c:∀p∈b,p<1000000000)(d:∀k,b.length=k+1->b.getD k 0≠0)(n:Nat):∀k,b.length=n+k->(JD (b.drop n)).length<=9*k:=by
 intro k;induction k generalizing n with
 |zero=>intro h;rw[QP om];simp[JD]
 |succ k e=>
  intro h;have b:=zbS 9 _ (zlI c n om) om;by_cases b:k=0
  ·subst b;rw[(zi7 n om).1];omega
  ·rw[zi6 c d n om];have:=e (n+1) om;rw[zM,zM,zbz];omega
theorem natString_one(w:H)(v:Value)(n:Nat)(b:NatV w v n)(d:n≠0)(k:n<Cap)(r:Tab w):
 C_ 42 #[v] w fun e w'=>e=Xa (gS ⟨(Lib.decDigits n).toArray⟩)/\b_ w w':=by
 go_enter func42,ntmps42
 go_wp2_with fail
 refine(jW _ _ _ b d).mono ?_;rintro e c ⟨rfl,rfl⟩;go_wp2_with fail
 refine(zny _ _ n 10 b d k om).mono ?_;rintro e b ⟨_,c,rfl,f,m,i,j,_,h⟩;obtain⟨_,_,rfl,t,q⟩:=f;have f:c≠ []:=by rintro rfl;exact d i.symm
 obtain⟨o,off,rfl,u,x⟩:=q f;have d:0<c.length:=ZC.2 f;have s:Hid (JD c=Lib.decDigits n):=by rw[Hid,JD,zO f,i]
 have g:=zf m;have l:=zf j;have y:=r.below h;clear q i t m j k r;have i:Lib.IsBuilderF 148 5 b.heap.size b.heap.size (Lib.byteCells []) (b.alloc (cl #[pn O,V_] 148)):=by
  refine Or.inl ⟨zh _,V_,zC _ _,?_,by simp[Value.ownBlock]⟩;exact World.ownsRowF_of (zaf _ _ _ _)
 have f:b_ b (b.alloc (cl #[pn O,V_] 148)):=(qf _ _).alloc (zh _) _;go_wp2;go_loopw [5] (fun d wr=>∃k:Nat,k<=c.length/\d=i_ ((k:Int)-1)/\Lib.IsBuilderF 148 5 b.heap.size b.heap.size (Lib.byteCells (JD (c.drop k))) wr/\b_ b wr) (fun d _=>(intOf d+1).toNat)
 case atStart=>exact⟨c.length,zh _,rfl,by rw[QP (zh _)];exact i,f⟩
 case round=>
  obtain⟨k,_,rfl,j,d⟩:=hrel;cases k with
  |zero=>
   rw[Q2,s.out]at j;have f:=d.size;go_wp2_with fail
   refine(Tryz.Builder_String_any_k b.heap.size b.heap.size _ _ j f).mono ?_;rintro e m ⟨rfl,_,f,_⟩;go_wp2;go_ret;exact⟨rfl,h.trans ((d.trans f).mono h.size)⟩
  |succ k=>
   have h:wr.cell? ⟨o,off+k,O⟩=E (it .u32 (c.getD k 0:Nat)):=(d.cell (p:=⟨o,off+k,O⟩) u).trans (x k om);have i:=y.below d;have h:=zlI g.out k om;have r:=zf (zow g.out l.out (k+1) (c.length-(k+1)) om);have q:Hid (if k+1=c.length then JD (c.drop k)=Lib.decDigits (c.getD k 0)/\JD (c.drop (k+1))= []else JD (c.drop k)=JD (c.drop (k+1))++(List.replicate (9-(Lib.decDigits (c.getD k 0)).length) 48++Lib.decDigits (c.getD k 0))):=by
    rw[Hid];split
    ·exact zi7 k om
    ·exact zi6 g.out l.out k om
   generalize c.getD k 0=g at *;have l:=zbS 9 g h om;go_wp2_with fail
   refine(zjZ g om _ i).mono ?_;rintro e m ⟨rfl,f⟩;have h:=zfs j f;have i:b_ b m:=d.trans (f.mono d.size);have o:=zdo (Lib.decDigits g);have t:=i.size;clear j f;by_cases s:k+1=c.length
   ·have d:=q.out;rw[zQ s]at d;rw[d.2]at h;have l:=zf d.1;have f:=zf o;clear d o;go_wp2_with fail
    refine(zeU b.heap.size b.heap.size (Lib.byteCells []) _ _ h (by rw[f.out];simp[Lib.byteCells];omega) t).mono ?_;rintro e o ⟨rfl,f,j,_⟩;have t:Lib.IsBuilderF 148 5 b.heap.size b.heap.size (Lib.byteCells (JD (c.drop k))) o:=by
     right
     rw[zdd,Q7,<-l.out]at f;exact f
    clear f h;go_wp2;go_roundw
    case rel=>exact⟨k,om,by go_num,t,i.trans j⟩
    case measure=>simp[intOf];omega
   ·have d:=q.out;rw[zO s]at d;have l:=zf d;clear d;generalize d:ByteArray.mk (Lib.decDigits g).toArray=s at *;generalize q:(Lib.decDigits g).length=L at *;have q:=zf d;clear d;go_wp2_with fail
    have d:(9:Int)-(L:Int)=((9-L:Nat):Int):=om;rw[d];refine(Tryz.strings_Repeat ⟨#[48]⟩ (9-L) m om (by rw[show(ByteArray.mk #[48]).size=1 from rfl];omega)).mono ?_;rintro e o ⟨rfl,f⟩;have g:=zfs h f;have j:b_ b o:=i.trans (f.mono i.size);have o:=j.size;have d:(ByteArray.mk (Lib.repeatL (ByteArray.mk #[48]).data.toList (9-L)).toArray).size=9-L:=by
     rw[zdo,show(ByteArray.mk #[48]).data.toList= [48]from rfl,zgY,zbz]
    have m:=zf d;clear d h f;go_wp2_with fail
    refine(zeU b.heap.size b.heap.size (Lib.byteCells (JD (c.drop (k+1)))) _ _ g (by rw[m.out];have:=r.out;simp[Lib.byteCells];omega) o).mono ?_;rintro e m ⟨rfl,d,h,_⟩;rw[zdd,zgY]at d;have f:Lib.IsBuilderF 148 5 b.heap.size b.heap.size (Lib.byteCells (JD (c.drop (k+1))++List.replicate (9-L) 48)) m:=Or.inr d;have m:=j.trans h;have o:=m.size;clear d h j g i;go_wp2_with fail
    refine(zeU b.heap.size b.heap.size _ s _ f (by have:=r.out;simp[Lib.byteCells];omega) o).mono ?_;rintro e i ⟨rfl,d,h,_⟩;have g:Lib.IsBuilderF 148 5 b.heap.size b.heap.size (Lib.byteCells (JD (c.drop k))) i:=by
     right
     rw[<-q.out,zdd,Zl,<-l.out]at d;exact d
    clear d f;go_wp2;go_roundw
    case rel=>exact⟨k,om,by go_num,g,m.trans h⟩
    case measure=>simp[intOf]
theorem zj0(w:H)(v:Value)(b:NatV w v 0):
 C_ 42 #[v] w fun e w'=>e=Xa (gS ⟨(Lib.decDigits 0).toArray⟩)/\b_ w w':=by
 go_enter func42,ntmps42
 go_wp2_with fail
 apply(JR _ _ b).mono;rintro e b ⟨rfl,rfl⟩;go_wp2;go_ret;refine⟨?_,qf _ _⟩;rw[Lib.decDigits_one om];rfl
theorem natString_any(w:H)(v:Value)(n:Nat)(c:NatV w v n)(d:n<Cap)(f:Tab w):
 C_ 42 #[v] w fun e w'=>e=Xa (gS ⟨(Lib.decDigits n).toArray⟩)/\b_ w w':=by
 by_cases b:n=0
 ·subst b;exact zj0 w v c
 ·exact natString_one w v n c b d f
theorem wholeString_any(w:H)(x:Value)(z:Int)(b:zy w x z)(g:z.natAbs<Cap)(i:Tab w):
 C_ 41 #[x] w fun e w'=>e=Xa (gS ⟨(Lib.itoa z).toArray⟩)/\b_ w w':=by
 obtain⟨c,d,l,f,rfl,j,h⟩:=b.parts;have b:b_ w (w.alloc (cl #[G c,V d l f] 64)):=(qf _ _).alloc (zh _) _;cases c with
 |true=>
  have c:z<0:=by have:=h.out;simp at this;omega
  have d:=dec_cap g;have d:Hid (ByteArray.mk #[45]++ByteArray.mk (Lib.decDigits z.natAbs).toArray=ByteArray.mk (Lib.itoa z).toArray):=by
   rw[Hid,Lib.itoa,zQ c];exact JW [45] _
  go_enter func41,ntmps41
  go_wp2_with fail
  apply(natString_any _ _ _ (j.alloc _) g (i.below b)).mono;rintro e k ⟨rfl,f⟩;generalize Lib.decDigits z.natAbs=l at *;go_wp2;go_ret;exact⟨by rw[<-d.out];rfl,b.trans (f.mono b.size)⟩
 |false=>
  have c:¬z<0:=by have:=h.out;simp at this;omega
  have d:Hid (Lib.itoa z=Lib.decDigits z.natAbs):=by
   rw[Hid,Lib.itoa,zO c];congr 1
   omega
  go_enter func41,ntmps41
  go_wp2_with fail
  apply(natString_any _ _ _ (j.alloc _) g (i.below b)).mono;rintro e k ⟨rfl,f⟩;go_wp2;go_ret;exact⟨by rw[d.out];rfl,b.trans (f.mono b.size)⟩
def jL (p:Int)(q:Nat):U_:=if q=1 then Lib.itoa p else Lib.itoa p++([47]++Lib.decDigits q)
theorem fracString_any(w:H)(x:Value)(p:Int)(q:Nat)(b:Qa w x p q)(u:p.natAbs<Cap)(z:q<Cap)(A:Tab w):
 C_ 26 #[x] w fun e w'=>e=Xa (gS ⟨(jL p q).toArray⟩)/\b_ w w':=by
 have y:=b;obtain⟨c,d,l,f,g,j,h,rfl,k,i,B,I,_⟩:=b.parts;have r:QQ (w.alloc (cl #[G c,V d l f,V g j h] 66)) w.heap.size (G c) (V d l f) (V g j h):=Xn _ _ _ _ _;have o:b_ w (w.alloc (cl #[G c,V d l f,V g j h] 66)):=(qf _ _).alloc (zh _) _;have C:zy w (ag #[G c,V d l f]) p:=⟨c,_,rfl,k,i⟩;by_cases m:q=1
 ·subst m;have t:Hid (jL p 1=Lib.itoa p):=by rw[Hid,jL,zQ rfl]
  go_enter func26,ntmps26
  go_wp2_with fail
  refine(zf2 _ _ p (y.alloc _)).mono ?_;rintro e s ⟨rfl,b⟩;have v:=(C.alloc (cl #[G c,V d l f,V g j h] 66)).below b;have k:=r.below b;obtain⟨J,K,L,M,N,R,T⟩:=k;have i:b_ w s:=o.trans (b.mono o.size);clear b r;go_wp2_with fail
  refine(wholeString_any _ _ p v u (A.below i)).mono ?_;rintro e D ⟨rfl,D⟩;go_wp2;go_ret;exact⟨by rw[t.out];rfl,i.trans (D.mono i.size)⟩
 ·rw[(zgc I m).1]at B;have D:=itoa_cap u;have D:=dec_cap z;have t:Hid (ByteArray.mk (Lib.itoa p).toArray++ByteArray.mk #[47]++ByteArray.mk (Lib.decDigits q).toArray=ByteArray.mk (jL p q).toArray):=by
   rw[Hid,jL,zO m];have D:ByteArray.mk (Lib.itoa p).toArray++ByteArray.mk #[47]=ByteArray.mk (Lib.itoa p ++ [47]).toArray:=JW _ [47];rw[D,JW,Zl]
  go_enter func26,ntmps26
  go_wp2_with fail
  refine(zgv _ _ p q (y.alloc _) m).mono ?_;rintro e s ⟨rfl,b⟩;have v:=(C.alloc (cl #[G c,V d l f,V g j h] 66)).below b;have y:=(B.alloc (cl #[G c,V d l f,V g j h] 66)).below b;have k:=r.below b;have m:=k;obtain⟨J,K,L,M,N,R,T⟩:=m;have i:b_ w s:=o.trans (b.mono o.size);have o:=A.below i;have m:Tab s.drew:=o;clear b r;go_wp2;go_region_held (fun w'=>w'.cell? (y_ w 0)=E (G c)/\w'.cell? (y_ w 1)=E (V d l f)/\w'.cell? (y_ w 2)=E (V g j h)) (go_keep) (first|(go_at_call 42;refine(natString_any _ _ q ((y.drew).below b) z (m.below b)).mono ?_;rintro e c ⟨rfl,d⟩;have c:=(k.drew.below b).below d;obtain⟨_,_,_,_,_,_,_⟩:=c)|(go_at_call 41;refine(wholeString_any _ _ p (by exact v.drewN 1) u (by exact m)).mono ?_;rintro e f ⟨rfl,b⟩;have c:=k.drew.below b;obtain⟨_,_,_,_,_,_,_⟩:=c))
  all_goals go_wp2
  all_goals go_ret
  all_goals
   have c:b_ w f:=i.trans ((ze1 b).mono i.size);exact⟨by rw[<-t.out];rfl,c.trans (d.mono c.size)⟩
theorem zfg(l:U_):(ByteArray.mk l.toArray).size=l.length:=by simp[ByteArray.size]
theorem zj1(s:ByteArray)(m:Nat)(w:H)(hm:m<=1000000000)(t:0<(Lib.trimPrefix s.data.toList [45]).length)(h1:(Lib.trimPrefix s.data.toList [45]).length<=m)(h2:Qm (Lib.trimPrefix s.data.toList [45])=true):
 C_ 35 #[gS s,i_ (m:Nat)] w fun e w'=>∃x,e=Xa (tp #[x,G true])/\zy w' x (sg (Lib.hasPrefix s.data.toList [45]) (ZE (Lib.trimPrefix s.data.toList [45])))/\b_ w w':=by
 have h:b_ w (w.alloc (cl #[G false,V_] 64)):=(qf _ _).alloc (zh _) _;have k:=Tryz.strings_CutPrefix s ⟨#[45]⟩ (w.alloc (cl #[G false,V_] 64));have r:(ByteArray.mk #[45]).data.toList= [45]:=rfl;rw[r]at k;generalize Lib.trimPrefix s.data.toList [45]=d at *;generalize Lib.hasPrefix s.data.toList [45]=neg at *;have b:=zf (zfg d);go_enter func35,ntmps35
 go_wp2_with fail
 apply (zf k).out.mono;rintro e R ⟨rfl,rfl⟩;go_wp2_with fail
 apply(zlH ⟨d.toArray⟩ m _ hm (by rw[b.out];exact t) (by rw[b.out];exact h1) (by simpa using h2)).mono;rintro e l ⟨M,rfl,C,i⟩;have D:NatV l M (ZE d):=by simpa using C
 have z:=(Xm _ _ _ _).below i;have g:=h.trans (i.mono h.size);go_wp2_with fail
 apply(Jh _ _ _ _ D).mono;rintro e N ⟨x,rfl,J,j⟩;obtain⟨q,p,L,K,rfl,I,u⟩:=J.parts;have v:=g.trans (j.mono g.size);have⟨c,f,_,_,_⟩:=z.below j;go_wp2;exact zH (by simp[results,results35,go_sem,c,f]) rfl ⟨_,rfl,QJ I u c f,
  (v.setCell sp _).setCell sp _⟩
theorem fracParse_frac(K:Nat)(J:K<=1073741822)(L:zfj K)(s:ByteArray)(m:Nat)(w:H)(mx:Int)(y:w.cell? (Xd 3 0 O)=E (i_ mx))(c:3<w.heap.size)(hm:m<=1000000000)(hs:s.size<4294967281)(a b:U_)(hcut:Lib.cut s.data.toList [47]=(a,b,true))(k:0<(Lib.trimPrefix a [45]).length)(l:(Lib.trimPrefix a [45]).length<=m)(o:Qm (Lib.trimPrefix a [45])=true)(q:0<b.length)(r:b.length<=m)(t:Qm b=true)(u:ZE b≠0)(B:ZE (Lib.trimPrefix a [45])<4294967296^K)(M:ZE b<4294967296^K):
 C_ 25 #[gS s,i_ (m:Nat)] w fun e w'=>∃x z,z=sg (Lib.hasPrefix a [45]) (ZE (Lib.trimPrefix a [45]))/\e=Xa (tp #[x,G true])/\Qa w' x (z/(Nat.gcd z.natAbs (ZE b):Int)) (ZE b/Nat.gcd z.natAbs (ZE b))/\b_ w w':=by
 have v:QQ (w.alloc (cl #[G false,V_,V_] 66)) w.heap.size (G false) (V_) (V_):=Xn _ _ _ _ _;have h:b_ w (w.alloc (cl #[G false,V_,V_] 66)):=(qf _ _).alloc (zh _) _;have A:(w.alloc (cl #[G false,V_,V_] 66)).cell? (Xd 3 0 O)=E (i_ mx):=(h.cell (p:=(Xd 3 0 O)) c).trans y;have c:=Tryz.strings_Cut s ⟨#[47]⟩ mx (w.alloc (cl #[G false,V_,V_] 66)) hs A;have g:(ByteArray.mk #[47]).data.toList= [47]:=rfl;rw[g,hcut]at c;have C:=zf c;have d:=fun W=>zj1 ⟨a.toArray⟩ m W hm (by simpa using k) (by simpa using l) (by simpa using o)
 have i:(ByteArray.mk a.toArray).data.toList=a:=sp;rw[i]at d;have D:=zf d;have f:=fun W=>zlH ⟨b.toArray⟩ m W hm (by rw[zfg];exact q) (by rw[zfg];exact r) (by simpa using t)
 have j:(ByteArray.mk b.toArray).data.toList=b:=sp;rw[j]at f;have I:=zf f;have N:(sg (Lib.hasPrefix a [45]) (ZE (Lib.trimPrefix a [45]))).natAbs<4294967296^K:=by rw[sg_abs];exact B
 generalize sg (Lib.hasPrefix a [45]) (ZE (Lib.trimPrefix a [45]))=z at *;generalize ZE b=n at *;clear c d f i j g hcut k l o q r t B y A hs;go_enter func25,ntmps25
 go_wp2_with fail
 refine C.out.mono ?_;rintro e c ⟨rfl,j,rfl⟩;go_wp2_with fail
 refine(D.out _).mono ?_;rintro e i ⟨x,rfl,l,k⟩;obtain⟨d,c,g,f,rfl,y,_⟩:=l.parts;have q:=(v.drewN j).below k;have o:b_ w i:=h.trans ((JJ k).mono h.size);have r:=q.alloc (cl #[G d,V c g f] 64);have t:=l.alloc (cl #[G d,V c g f] 64);have j:b_ w (i.alloc (cl #[G d,V c g f] 64)):=o.alloc o.size _;have o:Zh (i.alloc (cl #[G d,V c g f] 64)) i.heap.size (G d) (V c g f):=Xm _ _ _ _;clear k q v l y h;go_wp2_with fail
 refine(I.out _).mono ?_;rintro e k ⟨_,rfl,f,c⟩;have h:=r.below c;have i:=t.below c;have g:=o.below c;have d:b_ w k:=j.trans (c.mono j.size);clear c r t o j;obtain⟨B,C,D,I,R⟩:=g;go_wp2_with fail
 refine(jW _ _ _ f u).mono ?_;rintro e c ⟨rfl,rfl⟩;go_wp2_with fail
 refine(zie K J L _ _ _ z n i f u N M).mono ?_;rintro e f ⟨_,rfl,j,c⟩;obtain⟨o,k,M,J,l,N,L,rfl,t,u,v,y,A⟩:=j.parts;have r:=h.below c;have q:b_ w f:=d.trans (c.mono d.size);obtain⟨d,f,g,_,_,_,_⟩:=r;clear c h i B C D I R j;go_wp2;exact zH (v:=tp #[ag #[G o,V k M J,V l N L],G true]) (by simp[results,results25,go_sem,d,f,g]) rfl ⟨_,z,rfl,rfl,zbe t u v y A d f g,
  ((q.setCell sp _).setCell sp _).setCell sp _⟩
theorem zqr{x D S T:Nat}(b:B=S*T)(c:0<S)(e:0<T)(f:x<B):((x+B*(D%B))/S)%B+B*(D/S)=(x+B*D)/S:=by
 subst b;have b:∀h,(x+S*T*h)/S=x/S+T*h:=fun h=>by
  rw[Zt,zbO _ _ c]
 have d:=(QC c).2 (by rw[Z5];exact f);rw[b,b,Z5 S T,Nat.mod_mul];have b:(x/S+T*(D%(T*S)))%T=x/S:=by rw[Js,Jk d]
 have c:(x/S+T*(D%(T*S)))/T=D%(T*S):=by rw[zbO _ _ e,jH d,qt]
 rw[b,c,Nat.mod_mod_of_dvd _ (Nat.dvd_mul_left S T)];have c:T*(D%S)+T*S*(D/S)=T*D:=by
  rw[Zt,<-Zs,(Nat.mod_add_div D S)]
 omega
theorem zox{b:N_}{S T:Nat}(d:4294967296=S*T)(e:0<S)(f:0<T)(c:k<b.length)(h:k<ds.length)(g:Dig ds)(hi:val (b.drop (k+1))=val (ds.drop (k+1))/S):
 val ((b.set k (((ds.getD k 0+4294967296*(val (ds.drop (k+1))%4294967296))/S)%4294967296)).drop k)=val (ds.drop k)/S:=by
 rw[val_drop _ k (by rw[qX];exact c),zb2 _ _ _ c,QH,hi,val_drop ds k h];exact zqr d e f (g.get k)
theorem zk1(w:H)(b off cap s:Nat)(ds:N_)(hs:s<=31)(a1:ds.length<=cap)(a3:ds.length<=1073741824)(U:Row w b off ds)(M:zcj w b off ds.length)(l:Dig ds):
 C_ 203 #[V (E (Xd b off O)) ds.length cap,i_ (s:Nat)] w fun e w'=>
  e=Xa (V (E (Xd b off O)) ds.length cap)/\∃d,d.length=ds.length/\Dig d/\Row w' b off d/\Upd b off ds.length w w'/\val d=val ds/2^s:=by
 have t:0<2^s:=zbb dc;have u:0<2^(32-s):=zbb dc;have h:4294967296=2^s*2^(32-s):=by rw[<-Q6,show s+(32-s)=32 by omega]
 obtain⟨S,hS⟩:∃S,2^s=S:=⟨_,rfl⟩;obtain⟨T,hT⟩:∃T,2^(32-s)=T:=⟨_,rfl⟩;rw[hS]at t h;rw[hT]at u h;have q:=zf hS;have C:=zf h;go_enter func203,ntmps203
 go_wp2;go_loopw [5,6] (fun J p wr=>∃(k a:Nat) (c:N_),k<=ds.length/\a<18446744073709551616/\p=i_ ((k:Int)-1)/\J=it .u64 (a:Nat)/\Hid (c.length=ds.length)/\Dig c/\Row wr b off c/\Upd b off ds.length w wr/\
  Hid (c.take k=ds.take k)/\Hid (a%4294967296=val (ds.drop k)%4294967296)/\Hid (val (c.drop k)=val (ds.drop k)/S)) (fun _ p _=>(intOf p+1).toNat)
 case atStart=>exact⟨ds.length,0,ds,zh _,om,rfl,rfl,rfl,l,U,Xw _ _ _ _,rfl,by simp[Hid,val],by simp[Hid,val]⟩
 case round=>
  obtain⟨k,a,c,_,_,rfl,rfl,i,v,j,o,A,R,B⟩:=hrel;cases k with
  |zero=>
   have r:=zf B.out;simp only[Q2]at r;go_wp2;go_ret;exact⟨rfl,c,i.out,v,j,o,by rw[r.out,q.out]⟩
  |succ k=>
   have m:k<c.length:=by rw[i.out];omega
   have X:=j k m;rw[zhb A.out]at X;have Y:=l.get k;have a2:=o.free M k om;have x:=zox C.out t u m (show k<ds.length by omega) l B.out;have W:=val_drop ds k om;rw[<-R.out]at x;have f:=fun z=>j.setCell k z m
   have g:=fun z=>o.setCell k (show k<ds.length by omega) z
   have N:a%4294967296<4294967296:=Z0 _ dc;have D:Hid ((ds.getD k 0+4294967296*(a%4294967296))%4294967296=val (ds.drop k)%4294967296):=by rw[Hid,W,Js,Js]
   have a4:=zga (a%4294967296) (ds.getD k 0) N Y;have hw:IntKind.u64.wrap ((a:Int)*4294967296)=((a%4294967296:Nat):Int)*4294967296:=by
    have e:∀n:Int,IntKind.u64.wrap n=n%18446744073709551616:=fun n=>by simp[IntKind.wrap,IntKind.signed,IntKind.bits]
    rw[e];omega
   have Z:ds.getD k 0+4294967296*(a%4294967296)<18446744073709551616:=om;generalize ds.getD k 0=a0 at *;generalize a%4294967296=L at *;generalize a0+4294967296*L=y at *;have f:=f (y/S%4294967296);have g:=g (it .u32 ((y/S%4294967296:Nat):Int));have K:((y/S%4294967296:Nat):Int)=(y:Int)/2^s%4294967296:=by rw[<-q.out];simp
   rw[K]at f g;have I:=zf x;go_wp2;go_roundw
   case rel=>exact⟨k,y,_,om,Z,by go_num,rfl,by rw[Hid,qX,i.out],v.set _ _ (Z0 _ dc),f,g,by rw[Hid,zib];exact zkk A.out,D,I.out⟩
   case measure=>simp[intOf]
theorem zgD(w:H)(x y:Value)(z t:Int)(K:Nat)(hK:K<=1073741823)(h:zy w x z)(k:zy w y t)(hz:z.natAbs<4294967296^K)(ht:t.natAbs<4294967296^K):
 C_ 86 #[x,y] w fun e w'=>∃s,e=Xa s/\zy w' s (z-t)/\b_ w w':=by
 obtain⟨d,c,l,i,rfl,hv,hb⟩:=h.parts;obtain⟨g,f,m,j,rfl,a6,a3⟩:=k.parts;have a5:(-t).natAbs<4294967296^K:=by rw[Int.natAbs_neg];exact ht
 have p:=zbt w (cl #[G d,V c l i] 64) (cl #[G g,V f m j] 64) (cl #[G false,V_] 64);have hX:=h.below p;have hY:=k.below p;have D:Zh (((w.alloc (cl #[G d,V c l i] 64)).alloc (cl #[G g,V f m j] 64)).alloc (cl #[G false,V_] 64)) w.heap.size (G d) (V c l i):=((Xm _ _ _ _).alloc _).alloc _;have L:Zh (((w.alloc (cl #[G d,V c l i] 64)).alloc (cl #[G g,V f m j] 64)).alloc (cl #[G false,V_] 64)) (w.heap.size+1) (G g) (V f m j):=(Zh.new1 _ _ _ _ _).alloc _;have R:Zh (((w.alloc (cl #[G d,V c l i] 64)).alloc (cl #[G g,V f m j] 64)).alloc (cl #[G false,V_] 64)) (w.heap.size+1+1) (G false) (V_):=Zh.new2 _ _ _ _ _ _;clear hv hb a6 a3;go_enter func86,ntmps86
 go_wp2;go_region_held (fun w'=>w'.cell? (y_ w 0)=E (G d)/\w'.cell? (y_ w 1)=E (V c l i)/\w'.cell? (x_ w 0)=E (G g)/\w'.cell? (x_ w 1)=E (V f m j)) (first|(refine⟨?_,?_,?_,?_⟩<;>(rw[far,far]<;>first|assumption|omega))|go_keep) (first|(go_at_call 113;refine(zeF _ _ _ z (-t) K hK a1 a0 hz a5).mono ?_;rintro e wB ⟨_,rfl,A,o⟩;obtain⟨X,W,l2,k2,rfl,_,_⟩:=A.parts;have J:=q.below o;obtain⟨_,_,_,_,_⟩:=J;have N:=r.below o;obtain⟨_,_,_,_,_⟩:=N;have u:=T.below o;have U:=u;obtain⟨Y,Z,_,_,_⟩:=U;have a4:=B.trans (o.mono B.size))|(go_at_call 119;refine(zau _ _ t (by exact hY)).mono ?_;rintro e C ⟨_,rfl,a0,b⟩;have a1:=hX.drewN 1 |>.below b;have q:=D.drew.below b;have I:=q;obtain⟨_,_,_,_,_⟩:=I;have r:=L.drew.below b;have M:=r;obtain⟨_,_,_,_,_⟩:=M;have T:=R.drew.below b;have B:b_ w C:=p.trans (c:=C) ⟨b.os,b.tape,b.output,by have:=b.size;simpa using this,fun k hk=>b.block k so⟩))
 all_goals go_wp2
 all_goals exact zH (v:=ag #[G X,V W l2 k2]) (by simp[results,results86,go_sem,Y,Z]) rfl ⟨_,rfl,by rw[Int.sub_eq_add_neg];exact A.stored u,(a4.setCell so _).setCell so _⟩
def QY (q:Nat):Value:= .func (.func 246) #[] #[p_ q 0]
def ZA (q:Nat):Value:= .func (.func 249) #[] #[p_ q 0]
def jP (q:Nat):Value:= .func (.func 251) #[] #[p_ q 0]
def zgh (q:Nat):Value:= .func (.func 247) #[] #[p_ q 0]
theorem ziz:∀args w,(callFunc 246 args).run pg w= .ok (.enter 246 args) w:=qW func246 kr rfl
theorem ziA:∀args w,(callFunc 249 args).run pg w= .ok (.enter 249 args) w:=qW func249 kr rfl
theorem zqs:∀args w,(callFunc 251 args).run pg w= .ok (.enter 251 args) w:=qW func251 kr rfl
theorem zqt:∀args w,(callFunc 247 args).run pg w= .ok (.enter 247 args) w:=qW func247 kr rfl
theorem Tryz.infoPlace:(Tryz.prog.info? 289).map (fun i=>(i.zero,i.size,i.bytes))=E (E (.nilFunc),1,8):=kr
structure Pls (B:Nat)(w A:H)(gpl q0:Nat)(wd:U_)(qs:N_)(pt:Nat->Addr)(xs:N_)(ap:A_)(kp:Nat):Prop where
 own:A.ownsRow B 289 1 (V ap (qs.length+1) kp) (qs.length+1) (QY q0::qs.map ZA)
 box:A.cell? (Xd gpl 0 O)=E (V ap (qs.length+1) kp)
 fro:A.frozen? (Xd gpl 0 O)=false
 q0c:A.cell? (Xd q0 0 O)=E (gS ⟨wd.toArray⟩)
 qsc:∀j q,qs[j]? =E q->A.cell? (Xd q 0 O)=E (pn (E (pt j)))
 new:B<=gpl/\gpl≠q0/\B<=q0/\∀q∈qs,B<=q/\q≠gpl
 lt:∀x∈gpl::q0::(qs++xs),x<A.heap.size
 sep:∀g,(V ap (qs.length+1) kp).ownBlock=E g->∀x∈gpl::q0::(qs++xs),g≠x
 bel:Below B w A
 le:B<=w.heap.size
theorem zn.cells'(c:zn B w w'){o:Obj}(ho:w.heap[g]? =E o)(b:o.isCells=true):w'.heap[g]? =w.heap[g]?:=(c.block g o ho (.inr b)).trans ho.symm
theorem znA{B':Nat}{size:Nat}{v:Value}{xs:List Value}(h:w.ownsRow B e size v n xs)(o:zn B' w w'):w'.ownsRow B e size v n xs:=by
 obtain⟨b,i|⟨g,d,f,q,m,c,p,j,k,l⟩⟩:=h;·exact⟨b,Or.inl i⟩
 ·exact⟨b,Or.inr ⟨g,d,f,q,m,(o.cells' c rfl).trans c,p,j,k,l⟩⟩
theorem Pls.keep{C:Nat}{c:H}{j:U_}{i:N_}{d:A_}(h:Pls B w A e g j i pt xs d f)(b:zn C A c)(k:B<=C):Pls B w c e g j i pt xs d f:=
 ⟨znA h.own b,b.cell h.box,(b.frozen h.box).trans h.fro,b.cell h.q0c,fun j q c=>b.cell (h.qsc j q c),h.new,fun x c=>zK (h.lt x c) b.size,h.sep,b.below h.bel k h.le,h.le⟩
theorem Pls.alloc{g:U_}{f:N_}{b:A_}(h:Pls B w A c e g f pt xs b d)(o:Obj):Pls B w (A.alloc o) c e g f pt xs b d:=h.keep (zn.alloc B _ _) (zh _)
theorem Pls.drew{g:U_}{f:N_}{b:A_}(h:Pls B w A c e g f pt xs b d):Pls B w A.drew c e g f pt xs b d:=h.keep (zn.drew B _) (zh _)
theorem Pls.grow{k:H}{j q g cap:Nat}{d:U_}{b:N_}{f:A_}{i:Nat}(h:Pls B w A c j d b pt xs f i)(v:A.cell? (Xd q 0 O)=E (pn (E (pt b.length))))(a1:B<=q)(y:q≠c)(z:∀g,(V f (b.length+1) i).ownBlock=E g->g≠q)(a0:k.ownsRow B 289 1 (V (E (Xd g 0 O)) (b.length+1+1) cap) (b.length+1+1) (QY j::b.map ZA ++ [ZA q]))(hg:A.grownBy k (V f (b.length+1) i).ownBlock)(u:(V f (b.length+1) i).ownBlock=E g\/g=A.heap.size):
 Pls B w (k.setCell (Xd c 0 O) (V (E (Xd g 0 O)) (b.length+1+1) cap)) c j d (b ++ [q]) pt xs (E (Xd g 0 O)) cap/\
  Wr (fun x=>x=c\/(V f (b.length+1) i).ownBlock=E x) A (k.setCell (Xd c 0 O) (V (E (Xd g 0 O)) (b.length+1+1) cap)):=by
 have d:q<A.heap.size:=zw v;have l:Wr (fun x=>(V f (b.length+1) i).ownBlock=E x) A k:=⟨hg.os,hg.tape,hg.output,hg.size,fun m t e=>hg.block m t (fun s=>e s.symm)⟩;have r:∀{x:Nat},x∈c::j::(b++xs)->¬(V f (b.length+1) i).ownBlock=E x:=fun d e=>h.sep _ e _ d rfl
 have U:=l.cell (p:=(Xd c 0 O)) (r sp) h.box;have o:∀x∈c::j::(b++xs),g≠x:=by
  intro x d;rcases u with e|e
  ·exact h.sep g e x d
  ·have:=h.lt x d;omega
 have X:g≠q:=by
  rcases u with e|e
  ·exact z g e
  ·omega
 have W:=o c sp;have u:(b ++ [q]).length+1=b.length+1+1:=sp;have s:QY j::(b ++ [q]).map ZA=QY j::b.map ZA ++ [ZA q]:=sp;have N:Below B w k:=⟨hg.os.trans h.bel.os,hg.tape.trans h.bel.tape,hg.output.trans h.bel.output,zF h.bel.size hg.size,fun m t=>(hg.block m (by have:=h.bel.size;have:=h.le;omega) (fun e=>by have:=(h.own.lt m e.symm).1;omega)).trans (h.bel.block m t)⟩;refine⟨⟨?_,?_,?_,?_,?_,?_,?_,?_,?_,h.le⟩,?_⟩
 ·rw[u,s];obtain⟨I,J|⟨D,t,C,s,R,Y,Z,K,L,M⟩⟩:=a0;·exact absurd J.1 sp
  ·refine⟨I,Or.inr ⟨D,t,C,s,R,(qC _ _ _ _ ?_).trans Y,Z,K,L,M⟩⟩;simp only[qp,qN,Jg]at s;rw[<-s.1.1];exact W
 ·rw[u];exact zN _ _ _ U
 ·have:=(l.block c (h.lt c sp) (r sp));have s:k.frozen? (Xd c 0 O)=A.frozen? (Xd c 0 O):=qw (w:=A) this;simpa using s.trans h.fro
 ·rw[qj _ _ _ _ (by simpa using h.new.2.1)];exact l.cell (p:=(Xd j 0 O)) (r sp) h.q0c
 ·intro s k j;by_cases t:s<b.length
  ·rw[zS t]at j;have hm:=zx j;rw[qj _ _ _ _ (by simpa using Qr (h.new.2.2.2 k hm).2)];exact l.cell (p:=(Xd k 0 O)) (r (by simp[hm])) (h.qsc s k j)
  ·have k:s=b.length:=by
    have:=(zo.1 j).1;simp at this;omega
   subst k;rw[zG (zh _),Qn]at j;simp at j;subst j;rw[qj _ _ _ _ (by simpa using Qr y)];exact l.cell (p:=(Xd q 0 O)) (fun e=>z _ e rfl) v
 ·refine⟨h.new.1,h.new.2.1,h.new.2.2.1,fun x d=>?_⟩;rcases zU.1 d with e|e
  ·exact h.new.2.2.2 x e
  ·rw[qg.1 e];exact⟨a1,y⟩
 ·intro x d;have j:=hg.size;simp only[zI,zU,Zl]at d;have:x<A.heap.size:=by
   rcases d with e|e|e|e|e
   ·exact h.lt x (by simp[e])
   ·exact h.lt x (by simp[e])
   ·exact h.lt x (by simp[e])
   ·rcases e with e|e
    ·omega
    ·cases e
   ·exact h.lt x (by simp[e])
  simp;omega
 ·intro j k x d;have:j=g:=by simpa[Value.ownBlock]using k.symm
  subst this;simp only[zI,zU,Zl]at d;rcases d with e|e|e|e|e
  ·exact o x (by simp[e])
  ·exact o x (by simp[e])
  ·exact o x (by simp[e])
  ·rcases e with e|e
   ·rw[e];exact X
   ·cases e
  ·exact o x (by simp[e])
 ·exact N.setCell (p:=(Xd c 0 O)) h.new.1 _
 ·exact Xs (T:=fun x=>x=c\/(V f (b.length+1) i).ownBlock=E x) (l.mono (fun m e=>Or.inr e)) (p:=(Xd c 0 O)) (Or.inl rfl) _
theorem Pls.alloc_avoid{g:U_}{f:N_}{b:A_}(h:Pls B w A c e g f pt xs b d)(o:Obj):Pls B w (A.alloc o) c e g f pt (A.heap.size::xs) b d:=by
 have b:=h.alloc o;refine⟨b.own,b.box,b.fro,b.q0c,b.qsc,b.new,fun x d=>?_,fun g c x d=>?_,b.bel,b.le⟩
 ·simp only[zI,zU]at d;rcases d with e|e|e|e|e
  ·exact b.lt x (by simp[e])
  ·exact b.lt x (by simp[e])
  ·exact b.lt x (by simp[e])
  ·rw[e];simp
  ·exact b.lt x (by simp[e])
 ·simp only[zI,zU]at d;rcases d with e|e|e|e|e
  ·exact b.sep g c x (by simp[e])
  ·exact b.sep g c x (by simp[e])
  ·exact b.sep g c x (by simp[e])
  ·have:=(h.own.lt g c).2;omega
  ·exact b.sep g c x (by simp[e])
theorem Pls.avoid{i:U_}{d:N_}{b:A_}(h:Pls B w A e f i d pt xs b c)(y:Nat)(k:y<A.heap.size)(j:∀g,(V b (d.length+1) c).ownBlock=E g->g≠y):Pls B w A e f i d pt (y::xs) b c:=by
 refine⟨h.own,h.box,h.fro,h.q0c,h.qsc,h.new,fun x c=>?_,fun g b x c=>?_,h.bel,h.le⟩
 ·simp only[zI,zU]at c;rcases c with e|e|e|e|e
  ·exact h.lt x (by simp[e])
  ·exact h.lt x (by simp[e])
  ·exact h.lt x (by simp[e])
  ·rw[e];exact k
  ·exact h.lt x (by simp[e])
 ·simp only[zI,zU]at c;rcases c with e|e|e|e|e
  ·exact h.sep g b x (by simp[e])
  ·exact h.sep g b x (by simp[e])
  ·exact h.sep g b x (by simp[e])
  ·rw[e];exact j g b
  ·exact h.sep g b x (by simp[e])
theorem Pls.start(w W:H)(hb:b_ w W)(b:U_)(pt:Nat->Addr):
 Pls w.heap.size w (((W.alloc (cl #[gS ⟨b.toArray⟩] 9)).alloc (cl #[QY W.heap.size] 289)).alloc (cl #[V (E ⟨W.heap.size+1,0,O⟩) 1 1] 293))
  (W.heap.size+1+1) W.heap.size b [] pt [] (E ⟨W.heap.size+1,0,O⟩) 1:=by
 have e:=hb.size;refine⟨⟨rfl,Or.inr ⟨W.heap.size+1,1,#[QY W.heap.size],rfl,om,?_,zh _,mo,rfl,rfl⟩⟩,?_,?_,?_,fun j q c=>by simp at c,⟨om,om,e,fun q c=>by simp at c⟩,fun x c=>?_,fun g f x c=>?_,?_,zh _⟩
 ·have d:=qR (W.alloc (cl #[gS ⟨b.toArray⟩] 9)) (cl #[QY W.heap.size] 289);rw[zL]at d;exact(qH _ _ _ sp).trans d
 ·have:=(ZU ((W.alloc (cl #[gS ⟨b.toArray⟩] 9)).alloc (cl #[QY W.heap.size] 289)) 293 (V (E (x_ W 0)) 1 1)).cell;rwa [zL,zL]at this
 ·have:=(ZU ((W.alloc (cl #[gS ⟨b.toArray⟩] 9)).alloc (cl #[QY W.heap.size] 289)) 293 (V (E (x_ W 0)) 1 1)).frozen;rwa [zL,zL]at this
 ·exact(((ZU W 9 (gS ⟨b.toArray⟩)).alloc _).alloc _).cell
 ·simp only[zI,ZR,zY,Zp]at c;simp;omega
 ·simp[Value.ownBlock]at f;simp only[zI,ZR,zY,Zp]at c;omega
 ·exact(((hb.alloc e _).alloc so _).alloc so _)
theorem Pls.row{j:U_}{c:N_}{d:A_}(h:Pls B w A f e j c pt xs d b):
 ∃g,d=E (Xd g 0 O)/\B<=g/\g<A.heap.size/\c.length+1<=b/\b<=9223372036854775807/\∀i fv,(QY e::c.map ZA)[i]? =E fv->A.cell? (Xd g i O)=E fv:=by
 obtain⟨_,c|⟨g,_,_,b,e,_,k,d,_,_⟩⟩:=h.own;·exact absurd c.1 sp
 ·simp only[qp]at b;obtain⟨rfl,_,rfl⟩:=b;refine⟨g,rfl,e,(h.own.lt g rfl).2,k,by unfold maxLen at d;omega,fun i fv b=>?_⟩;have:=h.own.cells rfl i fv b;have e:(⟨g,0,O⟩:Addr).add i=⟨g,i,O⟩:=by
   unfold Addr.add;split
   ·rename_i b;rw[b]
   ·simp
  rw[e]at this;exact this
theorem zag{F:Fence}{P:Program}(w:H){ops:Array Oper}{o:Oper}{a:Act}{K:Act->H->Prop}{Q:Exit->Act->H->Prop}{l:Prop}(p:o.guard=O)(s x:Operand)(t:TypeId)(ho:o.op= .call { callee:= .builtin .append,args:=#[s,x],argTypes:=#[t,t] })(base:Nat)(e:TypeId)(i:TypeInfo)(z:Value)(size bytes:Nat)(T:P.underlying t=E (.slice e))(hi:P.info? e=E i)(W:i.zero=E z)(N:i.size=size)(C:i.bytes=bytes)(X:z.cells.size=size)(R:0<size)(v:Value)(m:Nat)(xs:List Value)(hs:a.eval s=v)(L:w.ownsRow base e size v m xs)(f:Addr)(k c:Nat)(b:List Value)(U:a.eval x=V (E f) k c)(I:b.length=k*size)(J:∀j u,b[j]? =E u->w.cell? (f.add j)=E u)(h1:∀u∈b,u.oneCell'=true)(hm:0<k)(y:m+k<=maxLen)(D:(m+k)*bytes<=140737488355328)(B:base<=w.heap.size)(d:Nat)(A:w.heap.size=d)(h:∀g cap w',w'.ownsRow base e size (V (E (Xd g 0 O)) (m+k) cap) (m+k) (xs++b)->w.grownBy w' v.ownBlock->(v.ownBlock=E g\/g=d)->g<w'.heap.size->K (a.put o.dst (V (E (Xd g 0 O)) (m+k) cap)) w'):
 if Region.wanted o (yielded ops a.tmps)=true then Oper.wpIn F n P o a w K Q else l:=by
 have l:Region.wanted o (yielded ops a.tmps)=true:=by simp[Region.wanted,p]
 rw[zQ l];have⟨g,cap,w',M,l,p,q,r⟩:=run_append_lies w t o.type base e i z size bytes T hi W N C X R v m xs L f k c b I J h1 hm y D B d A;unfold Oper.wpIn;refine⟨?_,?_⟩;·simp[Oper.about,ho,resolve,Target.leads,Sem.run_pure]
 ·rw[Oper.semAt_plain F _ _ (by rw[ho];intro c b;cases b)];simp[execOp,ho,resolve,invoke,builtin,hs,U,M,Result.andThen];exact h g cap w' l p q r
theorem JT{F:Fence}(A:H){ops:Array Oper}{o:Oper}{a:Act}{K:Act->H->Prop}{Q:Exit->Act->H->Prop}{m:Prop}(p:o.guard=O)(s x:Operand)(ho:o.op= .call { callee:= .builtin .append,args:=#[s,x],argTypes:=#[293,293] }){q:Nat}{d:N_}{j:A_}(e:Pls B w A c f l d pt xs j k)(z:d.length<=900)(hs:a.eval s=V j (d.length+1) k)(r:a.eval x=V (E (Xd b 0 O)) 1 1)(hb:A.cell? (Xd b 0 O)=E (ZA q))(t:A.cell? (Xd q 0 O)=E (pn (E (pt d.length))))(u:B<=q)(v:q≠c)(y:∀g,(V j (d.length+1) k).ownBlock=E g->g≠q)(h:∀g cap i,Pls B w (i.setCell (Xd c 0 O) (V (E (Xd g 0 O)) (d.length+1+1) cap)) c f l (d ++ [q]) pt xs (E (Xd g 0 O)) cap->
  Wr (fun x=>x=c\/(V j (d.length+1) k).ownBlock=E x) A (i.setCell (Xd c 0 O) (V (E (Xd g 0 O)) (d.length+1+1) cap))->
  ((V j (d.length+1) k).ownBlock=E g\/A.heap.size<=g)->
  i.cell? (Xd c 0 O)=E (V j (d.length+1) k)->i.frozen? (Xd c 0 O)=false->K (a.put o.dst (V (E (Xd g 0 O)) (d.length+1+1) cap)) i):
 if Region.wanted o (yielded ops a.tmps)=true then Oper.wpIn F n pg o a A K Q else m:=by
 have⟨C,f,l,m,z⟩:=Zn Tryz.infoPlace;refine zag A p s x 293 ho B 289 C .nilFunc 1 8 underlying293 f l m z rfl dc _ _ _ hs e.own ⟨b,0,O⟩ 1 1 [ZA q] r rfl ?_ (fun m f=>by simp at f;subst f;rfl) om mo om (by have:=e.bel.size;have:=e.le;omega) A.heap.size rfl ?_
 ·intro l m f;match l,f with
  |0,f=>simp at f;subst f;simpa[Addr.add]using hb
  |l+1,f=>simp at f
 ·intro g cap i m f l p;have⟨p,r⟩:=e.grow t u v y m f l;have m:¬(V j _ k).ownBlock=E c:=fun d=>e.sep _ d c sp rfl
  refine h g cap i p r (l.imp id (fun d=>om)) ?_ ?_;·exact(f.cell_far ⟨c,0,O⟩ (e.lt c sp) (fun d=>m d.symm)).trans e.box
  ·exact(f.frozen_far ⟨c,0,O⟩ (e.lt c sp) (fun d=>m d.symm)).trans e.fro
theorem zj2(b:A_)(l c:Nat)(w:H):
 C_ 148 #[V b l c] w fun e w'=>e=Xa (.func (.func 215) #[] #[p_ w.heap.size 0])/\w'=w.alloc (cl #[V b l c] 70):=by
 go_enter func148,ntmps148
 go_wp2;go_ret;exact⟨rfl,rfl⟩
theorem zmx(b:A_)(l c:Nat)(w:H):
 C_ 216 #[V b l c] w fun e w'=>e=Xa (.func (.func 252) #[] #[p_ w.heap.size 0])/\w'=w.alloc (cl #[V b l c] 71):=by
 go_enter func216,ntmps216
 go_wp2;go_ret;exact⟨rfl,rfl⟩
theorem zk2(b:A_)(l c:Nat)(w:H):
 C_ 254 #[V b l c] w fun e w'=>e=Xa (.func (.func 264) #[] #[p_ w.heap.size 0])/\w'=w.alloc (cl #[V b l c] 100):=by
 go_enter func254,ntmps254
 go_wp2;go_ret;exact⟨rfl,rfl⟩
theorem zgE(b:A_)(n cap:Nat)(c:Value)(w:H):
 C_ 85 #[ag #[V b n cap,c]] w fun e w'=>e=Xa (.func (.func 215) #[] #[p_ (w.heap.size+1) 0])/\w'=(w.alloc (cl #[V b n cap,c] 73)).alloc (cl #[V b n cap] 70):=by
 go_enter func85,ntmps85
 go_wp2_with fail
 apply(zj2 b n cap _).mono;rintro e b ⟨rfl,rfl⟩;go_wp2;go_ret;exact⟨sp,rfl⟩
theorem zrK(b:A_)(n cap:Nat)(c:Value)(w:H):
 C_ 153 #[ag #[c,V b n cap]] w fun e w'=>e=Xa (.func (.func 252) #[] #[p_ (w.heap.size+1) 0])/\w'=(w.alloc (cl #[c,V b n cap] 73)).alloc (cl #[V b n cap] 71):=by
 go_enter func153,ntmps153
 go_wp2_with fail
 apply(zmx b n cap _).mono;rintro e b ⟨rfl,rfl⟩;go_wp2;go_ret;exact⟨sp,rfl⟩
theorem zi8(s:ByteArray)(x:Bool)(f:A_)(d c:Nat)(b:A_)(n cap:Nat)(w:H):
 C_ 219 #[ag #[gS s,G x,V f d c,V b n cap]] w fun e w'=>e=Xa (.func (.func 264) #[] #[p_ (w.heap.size+1) 0])/\w'=(w.alloc (cl #[gS s,G x,V f d c,V b n cap] 234)).alloc (cl #[V b n cap] 100):=by
 go_enter func219,ntmps219
 go_wp2_with fail
 apply(zk2 b n cap _).mono;rintro e b ⟨rfl,rfl⟩;go_wp2;go_ret;exact⟨sp,rfl⟩
theorem zhm(h:k<10):(UInt8.ofNat (48+k)).toNat=48+k:=by
 rw[UInt8.toNat_ofNat'];omega
theorem zk3(a b:U_):Qm (a++b)=(Qm a&&Qm b):=by simp[Qm]
theorem zhY(n:Nat):Qm (Lib.decDigits n)=true:=by
 induction n using Nat.strongRecOn with
 |_ n d=>
  have b:∀k,k<10->Qm [UInt8.ofNat (48+k)]=true:=by
   intro k c;simp only[Qm,List.all_cons,List.all_nil,Bool.and_true,zhV,zhm c];simp;omega
  by_cases h:n<10
  ·rw[Lib.decDigits,dif_pos h];exact b n h
  ·rw[Lib.decDigits,dif_neg h,zk3,d (n/10) om,b (n%10) (Z0 _ om)];rfl
theorem zrL(n:Nat):ZE (Lib.decDigits n)=n:=by
 induction n using Nat.strongRecOn with
 |_ n b=>
  by_cases h:n<10
  ·rw[Lib.decDigits,dif_pos h];show ZE ([] ++ [_])=n
   rw[zf3,zhm h];simp[ZE]
  ·rw[Lib.decDigits,dif_neg h,zf3,b (n/10) om,zhm (Z0 _ om)];omega
theorem index_at(a b:U_)(h:∀c∈a,c≠47):Lib.index (a++47::b) [47]=a.length:=by
 induction a with
 |nil=>simp[Lib.index]
 |cons c a d=>
  simp only[ZZ,Lib.index,(d (fun e f=>h e (qq _ f)))];have d:([47]:U_).isPrefixOf (c::(a++47::b))=false:=by
   simp[List.isPrefixOf,Qr (h c qA)]
  rw[d];have d:((a.length:Int) == -1)=false:=by
   rw[ZN];omega
  rw[d];simp
theorem cut_at(a b:U_)(h:∀c∈a,c≠47):Lib.cut (a++47::b) [47]=(a,b,true):=by
 unfold Lib.cut;rw[index_at a b h,zQ om];simp
theorem dig_ne{l:U_}(h:Qm l=true):∀c∈l,c≠47/\c≠45:=by
 intro c b;have:=zgB (Zi.1 h c b);constructor
 ·rintro rfl;revert this;decide
 ·rintro rfl;revert this;decide
theorem zm2(n:Nat):Lib.hasPrefix (Lib.decDigits n) [45]=false:=by
 cases hd:Lib.decDigits n with
 |nil=>rfl
 |cons c r=>
  have b:=((dig_ne (zhY n)) c (by rw[hd];exact qA)).2;simp[Lib.hasPrefix,List.isPrefixOf,Qr b]
theorem zhn(z:Int):Lib.trimPrefix (Lib.itoa z) [45]=Lib.decDigits z.natAbs/\Lib.hasPrefix (Lib.itoa z) [45]=decide (z<0):=by
 unfold Lib.itoa;by_cases h:z<0
 ·rw[zQ h];constructor
  ·simp[Lib.trimPrefix,Lib.hasPrefix]
  ·simp[Lib.hasPrefix,h]
 ·rw[zO h];have e:z.toNat=z.natAbs:=om;rw[e];constructor
  ·rw[Lib.trimPrefix,zm2];rfl
  ·rw[zm2];simp[h]
theorem itoa_ne(z:Int):∀c∈Lib.itoa z,c≠47:=by
 unfold Lib.itoa;split
 ·intro c b;rcases zI.1 b with rfl|h
  ·decide
  ·exact(dig_ne (zhY _) c h).1
 ·intro c b;exact(dig_ne (zhY _) c b).1
theorem zrM(z:Int):sg (decide (z<0)) z.natAbs=z:=by
 unfold sg;by_cases h:z<0
 ·simp[h];omega
 ·simp[h];omega
theorem itoa_nat(b:Nat):Lib.itoa (b:Int)=Lib.decDigits b:=by
 rw[Lib.itoa,zO om];simp
theorem find_1(w:H):
 C_ 24 #[i_ 1] w fun e w'=>e=Xa (tp #[ag #[i_ 1,.func (.func 56) #[] #[],.func (.func 57) #[] #[]],G true])/\b_ w w':=by
 go_enter func24,ntmps24
 go_wp2;apply wp_loop_rounds 1;rw[rounds_succ];go_wp2;exact zH (by simp[results,results24,go_sem]) rfl ⟨rfl,((((qf w.heap.size w).alloc (zh _) _).alloc sp _).alloc so _)⟩
theorem find_3(w:H):
 C_ 24 #[i_ 3] w fun e w'=>e=Xa (tp #[ag #[i_ 3,.func (.func 56) #[] #[],.func (.func 59) #[] #[]],G true])/\b_ w w':=by
 go_enter func24,ntmps24
 go_wp2;apply wp_loop_rounds 3;rw[rounds_succ];go_wp2;rw[rounds_succ];go_wp2;rw[rounds_succ];go_wp2;exact zH (by simp[results,results24,go_sem]) rfl ⟨rfl,((((((qf w.heap.size w).alloc (zh _) _).alloc sp _).alloc so _).alloc so _).alloc so _)⟩
theorem noFault_any(w:H)(x y:Value)(p r:Int)(q s:Nat)(h:Qa w x p q)(k:Qa w y r s):
 C_ 56 #[x,y] w fun e w'=>e=Xa (i_ 0)/\b_ w w':=by
 obtain⟨_,_,_,_,_,_,_,rfl,_⟩:=h.parts;obtain⟨_,_,_,_,_,_,_,rfl,_⟩:=k.parts;go_enter func56,ntmps56
 go_wp2;go_ret;first|exact⟨rfl,qf _ _⟩|exact⟨rfl,zaA w _ _⟩
def Gl (w:H):Prop:=Tab w/\∃mx,w.cell? (Xd 3 0 O)=E (i_ mx)/\3<w.heap.size
theorem Gl.below(h:Gl w)(hb:b_ w w'):Gl w':=by
 have⟨c,e,d,b⟩:=h;exact⟨c.below hb,e,(hb.cell b).trans d,zK b hb.size⟩
def ParseOK (s:ByteArray)(p:Int)(q:Nat):Prop:=∀W,Gl W->C_ 25 #[gS s,i_ 40] W fun e w'=>∃x,e=Xa (tp #[x,G true])/\Qa w' x p q/\b_ W w'
theorem calc_1(w:H)(s t:ByteArray)(p r P:Int)(q u Q:Nat)(hg:Gl w)(hs:ParseOK s p q)(J:ParseOK t r u)(b:∀W x y,Qa W x p q->Qa W y r u->C_ 57 #[x,y] W fun e w'=>∃z,e=Xa z/\Qa w' z P Q/\b_ W w')(hP:P.natAbs<Cap)(hQ:Q<Cap):
 C_ 21 #[i_ 1,gS s,gS t] w fun e w'=>e=Xa (tp #[gS ⟨(jL P Q).toArray⟩,i_ 0])/\b_ w w':=by
 have HR:=zf b;clear b;go_enter func21,ntmps21
 go_wp2_with fail
 refine(find_1 _).mono ?_;rintro e b ⟨rfl,k⟩;have D:=Xn b (i_ 1) (.func (.func 56) #[] #[]) (.func (.func 57) #[] #[]) 58;have h:b_ w (b.alloc (cl #[i_ 1,.func (.func 56) #[] #[],.func (.func 57) #[] #[]] 58)):=k.alloc k.size _;have I:=hg.below h;go_wp2_with fail
 refine(hs _ I).mono ?_;rintro e C ⟨x,rfl,B,m⟩;obtain⟨d,b,l,f,c,i,g,rfl,_⟩:=B.parts;have o:b_ w C:=h.trans (m.mono h.size);have j:b_ w (C.alloc (cl #[G d,V b l f,V c i g] 66)):=o.alloc o.size _;have A:=(D.below m).alloc (cl #[G d,V b l f,V c i g] 66);have v:=Xn C (G d) (V b l f) (V c i g) 66;have a1:=B.alloc (cl #[G d,V b l f,V c i g] 66);have a0:=hg.below j;clear k m D h I B o;go_wp2_with fail
 refine(J _ a0).mono ?_;rintro e o ⟨y,rfl,B,b⟩;obtain⟨f,c,m,g,d,i,h,rfl,_⟩:=B.parts;have l:b_ w o:=j.trans (b.mono j.size);have k:b_ w (o.alloc (cl #[G f,V c m g,V d i h] 66)):=l.alloc l.size _;have Z:=(A.below b).alloc (cl #[G f,V c m g,V d i h] 66);have X:=(v.below b).alloc (cl #[G f,V c m g,V d i h] 66);have Y:=Xn o (G f) (V c m g) (V d i h) 66;have o:=(a1.below b).alloc (cl #[G f,V c m g,V d i h] 66);have C:=B.alloc (cl #[G f,V c m g,V d i h] 66);have f:=A.below b;obtain⟨g,h,i,m,D,I,J⟩:=f;have d:=v.below b;obtain⟨K,L,M,N,R,T,U⟩:=d;clear b A v a1 a0 j l B;go_wp2_with fail
 refine(noFault_any _ _ _ p r q u o C).mono ?_;rintro e j ⟨rfl,b⟩;have c:b_ w j:=k.trans (b.mono k.size);have f:=Z.below b;have d:=X.below b;have A:=Y.below b;have l:=o.below b;have v:=C.below b;have j:=hg.below c;clear b Z X Y o C k g h i m D I J K L M N R T U;obtain⟨g,h,i,m,D,I,J⟩:=f;obtain⟨K,L,M,N,R,T,U⟩:=d;obtain⟨o,B,C,X,Y,Z,k6⟩:=A;go_wp2_with fail
 refine(HR.out _ _ _ l v).mono ?_;rintro e f ⟨z,rfl,k,b⟩;have d:b_ w f:=c.trans (b.mono c.size);have f:=j.below b;clear b l v j c g h i m D I J K L M N R T U o B C X Y Z k6;go_wp2_with fail
 refine(fracString_any _ _ P Q k hP hQ f.1).mono ?_;rintro e b ⟨rfl,b⟩;go_wp2;go_ret2;exact⟨rfl,d.trans (b.mono d.size)⟩
theorem calc_3(w:H)(s t:ByteArray)(p r P:Int)(q u Q:Nat)(hg:Gl w)(hs:ParseOK s p q)(J:ParseOK t r u)(b:∀W x y,Qa W x p q->Qa W y r u->C_ 59 #[x,y] W fun e w'=>∃z,e=Xa z/\Qa w' z P Q/\b_ W w')(hP:P.natAbs<Cap)(hQ:Q<Cap):
 C_ 21 #[i_ 3,gS s,gS t] w fun e w'=>e=Xa (tp #[gS ⟨(jL P Q).toArray⟩,i_ 0])/\b_ w w':=by
 have HR:=zf b;clear b;go_enter func21,ntmps21
 go_wp2_with fail
 refine(find_3 _).mono ?_;rintro e b ⟨rfl,k⟩;have D:=Xn b (i_ 3) (.func (.func 56) #[] #[]) (.func (.func 59) #[] #[]) 58;have h:b_ w (b.alloc (cl #[i_ 3,.func (.func 56) #[] #[],.func (.func 59) #[] #[]] 58)):=k.alloc k.size _;have I:=hg.below h;go_wp2_with fail
 refine(hs _ I).mono ?_;rintro e C ⟨x,rfl,B,m⟩;obtain⟨d,b,l,f,c,i,g,rfl,_⟩:=B.parts;have o:b_ w C:=h.trans (m.mono h.size);have j:b_ w (C.alloc (cl #[G d,V b l f,V c i g] 66)):=o.alloc o.size _;have A:=(D.below m).alloc (cl #[G d,V b l f,V c i g] 66);have v:=Xn C (G d) (V b l f) (V c i g) 66;have a1:=B.alloc (cl #[G d,V b l f,V c i g] 66);have a0:=hg.below j;clear k m D h I B o;go_wp2_with fail
 refine(J _ a0).mono ?_;rintro e o ⟨y,rfl,B,b⟩;obtain⟨f,c,m,g,d,i,h,rfl,_⟩:=B.parts;have l:b_ w o:=j.trans (b.mono j.size);have k:b_ w (o.alloc (cl #[G f,V c m g,V d i h] 66)):=l.alloc l.size _;have Z:=(A.below b).alloc (cl #[G f,V c m g,V d i h] 66);have X:=(v.below b).alloc (cl #[G f,V c m g,V d i h] 66);have Y:=Xn o (G f) (V c m g) (V d i h) 66;have o:=(a1.below b).alloc (cl #[G f,V c m g,V d i h] 66);have C:=B.alloc (cl #[G f,V c m g,V d i h] 66);have f:=A.below b;obtain⟨g,h,i,m,D,I,J⟩:=f;have d:=v.below b;obtain⟨K,L,M,N,R,T,U⟩:=d;clear b A v a1 a0 j l B;go_wp2_with fail
 refine(noFault_any _ _ _ p r q u o C).mono ?_;rintro e j ⟨rfl,b⟩;have c:b_ w j:=k.trans (b.mono k.size);have f:=Z.below b;have d:=X.below b;have A:=Y.below b;have l:=o.below b;have v:=C.below b;have j:=hg.below c;clear b Z X Y o C k g h i m D I J K L M N R T U;obtain⟨g,h,i,m,D,I,J⟩:=f;obtain⟨K,L,M,N,R,T,U⟩:=d;obtain⟨o,B,C,X,Y,Z,k6⟩:=A;go_wp2_with fail
 refine(HR.out _ _ _ l v).mono ?_;rintro e f ⟨z,rfl,k,b⟩;have d:b_ w f:=c.trans (b.mono c.size);have f:=j.below b;clear b l v j c g h i m D I J K L M N R T U o B C X Y Z k6;go_wp2_with fail
 refine(fracString_any _ _ P Q k hP hQ f.1).mono ?_;rintro e b ⟨rfl,b⟩;go_wp2;go_ret2;exact⟨rfl,d.trans (b.mono d.size)⟩
theorem Row.keep(h:Row w b o ds)(d:Upd b off n w w')(c:o+ds.length<=off\/off+n<=o):Row w' b o ds:=
 fun i c=>(d.cell (o+i) om).trans (h i c)
theorem Row.splice{w w':World}{j:Nat}{L W:N_}(h:Row w b off L)(hu:Upd b (off+j) W.length w w')(hW:Row w' b (off+j) W)(hj:j+W.length<=L.length):Row w' b off (splice L W j):=by
 have hl:(L.take j).length=j:=by simp;omega
 apply ((h.take j).keep hu (Or.inl (by simp;omega))).append;rw[hl];apply hW.append;rw[show off+j+W.length=off+(j+W.length)by omega];exact (h.drop (j+W.length)).keep hu (Or.inr (by omega))
structure Two (b c:Nat)(w w':H):Prop where
 os:w'.os=w.os
 tape:w'.tape=w.tape
 output:w'.output=w.output
 size:w'.heap.size=w.heap.size
 block:∀k,k≠b->k≠c->w'.heap[k]? =w.heap[k]?
 frozen:∀k j,w'.frozen? (Xd k j O)=w.frozen? (Xd k j O)
theorem Two.refl(b c:Nat)(w:H):Two b c w w:=⟨rfl,rfl,rfl,rfl,fun _ _ _=>rfl,fun _ _=>rfl⟩
theorem Two.trans{u v:H}(h:Two b c u v)(k:Two b c v w):Two b c u w:=
 ⟨k.os.trans h.os,k.tape.trans h.tape,k.output.trans h.output,k.size.trans h.size,fun i d e=>(k.block i d e).trans (h.block i d e),fun i j=>(k.frozen i j).trans (h.frozen i j)⟩
theorem Upd.frozenAll(h:Upd b off n w w')(k j:Nat):w'.frozen? (Xd k j O)=w.frozen? (Xd k j O):=by
 by_cases c:k=b
 ·subst c;exact h.frozen j
 ·exact qw (h.block k c)
theorem Upd.two(h:Upd b off n w w')(c:Nat):Two b c w w':=⟨h.os,h.tape,h.output,h.size,fun k d _=>h.block k d,h.frozenAll⟩
theorem Upd.two'(h:Upd b off n w w')(c:Nat):Two c b w w':=⟨h.os,h.tape,h.output,h.size,fun k _ d=>h.block k d,h.frozenAll⟩
theorem Two.drewN{u:H}(h:Two b c u w)(n:Nat):Two b c u (w.drewN n):=⟨h.os,h.tape,h.output,h.size,h.block,h.frozen⟩
theorem Two.row(h:Two b c w w')(hb:k≠b)(d:k≠c)(f:Row w k o ds):Row w' k o ds:=
 fun i e=>(Zj (h.block k hb d)).trans (f i e)
theorem Two.free(h:Two b c w w')(d:zcj w k o n):zcj w' k o n:=fun i e=>(h.frozen _ _).trans (d i e)
theorem Two.below(h:Two b c w w')(hb:B<=b)(d:B<=c):Below B w w':=⟨h.os,h.tape,h.output,jm h.size.symm,fun k d=>h.block k om om⟩
theorem znB(K:Nat)(hK:K<=1073741800):LongOK K:=by
 intro w cJ cK b6 n hu hv hm bL cu bK;obtain⟨X,bX,hd,ht,b3,hl⟩:=J9 hu hm;obtain⟨l,r,a6,aY,b4,cp⟩:=J9 hv (qu bL hm);have ct:1<l.length:=Top.ge a6 (by rw[b4];simpa using bK);obtain⟨t,hes⟩:∃t,l.length=t+2:=⟨l.length-2,om⟩;have ar:l.length<=X.length:=by
  rcases Qc X.length l.length with aA|aA
  ·have:=aY.lt_of_len hd aA;omega
  ·exact aA
 have bA:X≠ []:=by intro e;rw[e,hes]at ar;simp at ar
 have aJ:l≠ []:=by intro e;rw[e]at hes;simp at hes
 have c0:=aY (t+1) hes;have cz:=a6.get (t+1);obtain⟨B,hs,bT,bR,bS⟩:=znu (Z3 c0) cz;obtain⟨m,g⟩:=by_bd a6 hes bR bS;have br:0<2^B:=zbb dc;have ce:2^B<=2147483648:=ZD (n:=2) dc hs;rw[b4]at m g;have U:=r;have b2:=bX;obtain⟨_,_,rfl,cj,bO⟩:=r;obtain⟨_,_,rfl,ci,bQ⟩:=bO aJ;obtain⟨_,_,rfl,hc,hr⟩:=bX;have ck:=bQ (t+1) om;have aW:b6<4294967296^X.length:=by rw[<-b3];exact val_lt hd
 obtain⟨M,hM⟩:∃M,X.length=M:=⟨_,rfl⟩;rw[hes]at ar ct cp U cj⊢;rw[hM]at ar hl b2 hc aW⊢;generalize cA:l.getD (t+1) 0=cC at *;have aV:=fun c7=>Tryz.bits_LeadingZeros32 (cC:Int) c7 om om
 rw[jT,bT]at aV;have ae:=zf m;have az:=zf g;have c4:=zf aW;clear hr bO m g c0 bR bS bT hm bL cu bK ht aY aW;go_enter func136,ntmps136
 go_wp2_with fail
 refine(aV _).mono ?_;rintro e w0 ⟨rfl,rfl⟩;go_wp2_with fail
 refine(zif _ _ X B hs b2 bA hd om).mono ?_;rintro e w1 ⟨c,L0,rfl,aD,ca,bo,aC,bp,m,bF,a7⟩;rw[hM]at aD aC;rw[hM];go_wp2_with fail
 refine(zif _ _ l B hs (U.below m) aJ a6 om).mono ?_;rintro e w2 ⟨gB,k,rfl,bg,be,aB,bf,bh,g,cm,bD⟩;rw[hes]at bg bf;rw[hes];go_wp2_with fail
 refine(trim_any _ _ _ _ _ k om om om aB).mono ?_;rintro e w3 ⟨rfl,rfl⟩;have u:=be.take (Jr k (t+2+1));have aj:=zg8 k (t+2+1) om;have J:=val_trimL k (t+2+1) om;rw[zP (show k.length<=t+2+1 by omega),bh,b4]at J;have ai:=aB.take (Jr k (t+2+1));obtain⟨v,ah⟩:=zoo u aj J ae.out az.out;have aZ:Jr k (t+2+1)=t+2:=by
  have:=zgu k (t+2+1);rw[zX]at v;omega
 rw[aZ]at u aj J ai v ah;rw[aZ];obtain⟨F,hF⟩:∃F,k.take (t+2)=F:=⟨_,rfl⟩;rw[hF]at u aj J ai v ah;clear hF aZ be aB bf bh bg aj;have bJ:=znv aD om (b3▸bp) c4.out br ce ae.out;obtain⟨i0,N,c1,c2,c3⟩:=Zn Xu;obtain⟨f,hk0⟩:∃f,M-(t+2)+1=f:=⟨_,rfl⟩;have bl:=zf bJ;clear bJ;go_wp2_with (at_make;refine ziw _ rfl _ _ 62 rfl 127 i0 underlying62 N c1 c2 c3 _ _ _ _ f rfl rfl om om om ?_;intro C bq aF a5 bV)
 have aL:gB≠w3.heap.size:=om;have a1:c≠w3.heap.size:=by have:=g.size;omega
 have ak:gB≠c:=om;have cb:=(bo.below g a7).below a5 (zK a7 g.size);have bi:=ai.below a5 bD;have bn:zcj C c 0 (M+1):=fun A N=>(a5.frozen (p:=⟨c,0+A,O⟩) (zK a7 g.size)).trans ((g.frozen (p:=⟨c,0+A,O⟩) a7).trans (aC A N))
 have ch:=m.trans ((g.trans (a5.mono g.size)).mono m.size);have bG:=zF m.size g.size;have cn:gB<C.heap.size:=om;obtain⟨d,hgQ⟩:∃d,w3.heap.size=d:=⟨_,rfl⟩;rw[hgQ]at bq aF bV aL a1 bG;rw[hgQ];clear N c1 c2 c3 hv U ci bQ hu b2 ck bo ai aC m g a5 aV cA a6 hd hes bA aJ a7 cm bD;obtain⟨i,hV⟩:∃i,2^B*n=i:=⟨_,rfl⟩;have HV:=zf hV;rw[hV]at J ae az bl;clear hV;have bs:=az.out;have af:=zf J;clear J;have bb:=zf bs;clear bs;go_loopw [9] (fun iv wr=>∃(W:Nat) (L Q:N_),W<=f/\iv=i_ ((W:Int)-1)/\Hid (L.length=M+1)/\Dig L/\Row wr c 0 L/\Hid (Q.length=f)/\Dig Q/\Row wr d 0 Q/\Two c d C wr/\
  Hid (val L0=val L+i*(4294967296^W*val (Q.drop W)))/\Hid (val (L.drop W)<i)) (fun iv _=>(intOf iv+1).toNat)
 case atStart=>exact⟨f,L0,List.replicate f 0,zh _,rfl,aD,ca,cb,by simp[Hid],(fun cD hd=>by rw[zaB hd];decide),bq,Two.refl _ _ _,by rw[Hid,QP sp];simp[val],by rw[Hid,show f=M-t-1 by omega];exact bl.out⟩
 case round=>
  obtain⟨W,L,Q,_,rfl,R,a8,au,y,aX,av,o,a2,a9⟩:=hrel;cases W with
  |zero=>
   have bY:val L0=2^B*b6:=by rw[bp,b3]
   obtain⟨x,bP⟩:=zqh (S:=2^B) (m:=b6) (n:=n) (r:=val L) (q:=val Q) br (by
    have:=a2.out;rw[bY,Q2,Nat.pow_zero,Jv,<-HV.out]at this;exact this) (by have:=a9.out;rw[Q2,<-HV.out]at this;exact this)
   have c5:=zf x;have c6:=zf bP;have bM:=o.free aF;have aU:=o.free bn;have bU:=zk1 wr c 0 (M+1) B L hs (by rw[R.out];omega) (by rw[R.out];omega) au (by rw[R.out];exact aU) a8;rw[R.out]at bU;have co:d<wr.heap.size:=by rw[o.size];exact bV
   clear x bP a2 a9 bY;go_wp2_with fail
   refine(trim_any _ d 0 f f Q (zh _) om (by rw[y.out];omega) av).mono ?_;rintro e w5 ⟨rfl,rfl⟩;go_wp2_with fail
   refine bU.mono ?_;rintro e s ⟨rfl,L',aR,cq,aS,aT,cr⟩;go_wp2_with fail
   refine(trim_any _ c 0 (M+1) (M+1) L' (zh _) om om aS).mono ?_;rintro e D ⟨rfl,rfl⟩;go_wp2_with fail
   go_ret2;have ab:=aT.other (fun e=>a1 e.symm) av;refine⟨_,_,rfl,?_,?_,?_⟩;·rw[<-c5.out];exact natV_trim ab aX (by rw[aT.size];exact co) y.out (zh _)
   ·rw[<-c6.out,<-cr];exact natV_trim aS cq (block_of_row aS (by intro e;rw[e]at aR;simp at aR)) aR (zh _)
   ·exact ch.trans ((o.below bF bG).trans (aT.below bF))
  |succ j=>
   have aQ:j+(t+2)+1<=L.length:=by rw[R.out];omega
   obtain⟨ax,bZ,b5⟩:=znp a8 aQ a9.out bb.out;obtain⟨I,hWd0⟩:∃I,(L.drop j).take (t+2+1)=I:=⟨_,rfl⟩;have a0:I.length=t+3:=by rw[<-hWd0,zX,Za];omega
   have bx:Row wr c j I:=by have:=(au.drop j).take (t+2+1);rw[hWd0,qt]at this;exact this
   have ap:Dig I:=by rw[<-hWd0];exact(a8.drop j).take _
   rw[hWd0]at ax;have bj:=o.row ak aL bi;have hX:=top_le a0 v u ax af.out b5;have aU:=o.free bn;have bw:zcj wr c j (t+3):=fun A N=>by have:=aU (j+A) om;rwa [qt]at this
   have bI:=zjR wr c j (M+1-j) gB 0 (t+2+1) t I F a0 v om om om bx bj ap u ah hX _ _ _ _ rfl rfl rfl rfl;have bE:gB<wr.heap.size:=by rw[o.size];exact cn
   have bM:=o.free aF;have cE:wr.cell? (Xd d j O)=E (it .u32 ((Q.getD j 0:Nat):Int)):=by have:=av j (by rw[y.out];omega);rwa [qt]at this
   have cv:wr.frozen? (Xd d j O)=false:=by have:=bM j om;rwa [qt]at this
   have aP:j<f:=om;have a4:=zf ax;have bu:=zf bZ;have cg:=zf b5;have bd:=zf hWd0;clear ax bZ b5 hX hWd0;go_wp2_with fail
   rw[show j+(t+2)+1-j=t+3 by omega];refine bI.mono ?_;rintro e w5 ⟨h,rfl,aK,bB,bC,nq,rfl⟩;obtain⟨aM,bH⟩:=znw a0 v ap u a4.out af.out ah cg.out rfl rfl rfl rfl bB aK bC;have bW:=zgV (wr.drewN nq) c j (M+1-j) h I F (V (E (Xd gB 0 O)) (t+2) (t+2+1)) om om om aK bx (by rw[a0];exact bw) ap
    ⟨_,t+2+1,by rw[v],om,fun _=>⟨gB,0,rfl,bE,ak,bj⟩⟩ u
   rw[a0]at bW;clear bB bC bI;go_wp2_with fail
   refine bW.mono ?_;rintro e s ⟨W1,cB,rfl,hr,Z,aH,bt,T,r⟩;rw[a4.out,af.out]at r;have aG:0<i:=by
    have:=ae.out;have:=pow_pos (t+1);generalize 4294967296^(t+1)=P at *;omega
   have Y:=val_lt aH;rw[Z]at Y;have ad:val (L.drop j)<4294967296^(t+3):=by
    have:=val_lt ap;rw[a4.out,a0]at this;exact this
   have al:i<4294967296^(t+3):=zK bb.out (pow_mono om);have b0:=(o.drewN nq).trans (T.two d);have cc:=Row.splice (w:=wr.drewN nq) au (by rw[qt,Z];exact T) (by rw[qt];exact bt) (by rw[Z];omega);have ab:=T.other (fun e=>a1 e.symm) av;have c9:=b0.row ak aL bi;have cF:s.cell? (Xd d j O)=E (it .u32 ((Q.getD j 0:Nat):Int)):=by have:=ab j (by rw[y.out];omega);rwa [qt]at this
   have cw:=(T.frozenAll d j).trans cv;have aq:j<Q.length:=by rw[y.out];exact aP
   by_cases aN:h<=val (L.drop j)/i
   ·obtain⟨rfl,x,aa⟩:=zop aG aM aN Y r ad;obtain⟨s1,s2⟩:=zkn aQ om aq (by rw[bd.out];exact a4.out) bu.out x a2.out;have a3:=ab.setCell j h aq;have z:=(Xw d 0 f s).setCell j aP (it .u32 (h:Int));simp only[qt]at a3 z;have aE:=z.other a1 cc;have b1:=b0.trans (z.two' c);have S1:=zf s1;have S2:Hid (val ((splice L W1 j).drop j)<i):=by rw[Hid,s2];exact aa
    clear s1 s2 x aa r ad al aM bH aN a2 a9 Y;go_wp2_with fail
    go_roundw
    case rel=>exact⟨j,splice L W1 j,Q.set j h,om,by go_num,by rw[Hid,zgx (by rw[Z];omega),R.out],zi0 a8 aH,aE,by rw[Hid,qX,y.out],aX.set _ _ aK,a3,b1,S1,S2⟩
    case measure=>simp[intOf]
   ·have aO:h=val (L.drop j)/i+1:=om;obtain⟨_,_,ay⟩:=zkq (b:=0) (c:=0) aG aO Y r ad al;have cI:(0:Int)<(cB:Int):=om;have bz:=zf1 s c j (M+1-j) W1 F (V (E (Xd gB 0 O)) (t+2) (t+2+1)) om om om bt (by rw[Z];exact fun A N=>(T.frozenAll c (j+A)).trans (bw A N)) aH
     ⟨_,t+2+1,by rw[v],om,fun _=>⟨gB,0,rfl,by rw[T.size];exact bE,ak,c9⟩⟩ u
    rw[Z]at bz;have b9:=zf r;have b7:=zf aO;have b8:=zf ad;have ba:=zf al;have bc:=zf Y;clear ay r aO ad al Y aM bH aN;go_wp2_with fail
    refine bz.mono ?_;rintro e D ⟨rfl,W2,c8,an,bv,cf,aw,U⟩;rw[af.out]at U;have aI:=val_lt bv;rw[an]at aI;obtain⟨_,_,ay⟩:=zkq (b:=val W2) (c:=c8) aG b7.out bc.out b9.out b8.out ba.out;obtain⟨x,aa⟩:=ay aI U;have b1:=b0.trans (aw.two d);have cy:=T.trans aw;have aE:=Row.splice (w:=wr.drewN nq) au (by rw[qt,an];exact cy) (by rw[qt];exact cf) (by rw[an];omega);have bN:=aw.other (fun e=>a1 e.symm) ab;have cG:D.cell? (Xd d j O)=E (it .u32 ((Q.getD j 0:Nat):Int)):=by have:=bN j (by rw[y.out];omega);rwa [qt]at this
    have cH:=(aw.frozenAll d j).trans cw;obtain⟨s1,s2⟩:=zkn (q:=h-1) aQ om aq (by rw[bd.out];exact a4.out) bu.out x a2.out;have a3:=bN.setCell j (h-1) aq;have z:=(Xw d 0 f D).setCell j aP (it .u32 ((h-1:Nat):Int));rw[show((h-1:Nat):Int)=(h:Int)-1 by omega]at a3 z;simp only[qt]at a3 z;have cd:=z.other a1 aE;have cx:=b1.trans (z.two' c);have S1:=zf s1;have S2:Hid (val ((splice L W2 j).drop j)<i):=by rw[Hid,s2];exact aa
    clear s1 s2 x aa U aI ay a2 a9 b9 b7 b8 ba bc;go_wp2_with fail
    go_roundw
    case rel=>exact⟨j,splice L W2 j,Q.set j (h-1),om,by go_num,by rw[Hid,zgx (by rw[an];omega),R.out],zi0 a8 bv,cd,by rw[Hid,qX,y.out],aX.set _ _ om,a3,cx,S1,S2⟩
    case measure=>simp[intOf]
theorem index_none(a:U_)(h:∀c∈a,c≠47):Lib.index a [47]=-1:=by
 induction a with
 |nil=>simp[Lib.index]
 |cons c a b=>
  simp only[Lib.index,(b (fun d e=>h d (qq _ e)))];have b:([47]:U_).isPrefixOf (c::a)=false:=by
   simp[List.isPrefixOf,Qr (h c qA)]
  rw[b];simp
theorem cut_none(a:U_)(h:∀c∈a,c≠47):Lib.cut a [47]=(a,[],false):=by
 unfold Lib.cut;rw[index_none a h,zO om]
theorem fracParse_whole(s:ByteArray)(m:Nat)(w:H)(mx:Int)(k:w.cell? (Xd 3 0 O)=E (i_ mx))(c:3<w.heap.size)(hm:m<=1000000000)(hs:s.size<4294967281)(a:U_)(hcut:Lib.cut s.data.toList [47]=(a,[],false))(h:0<(Lib.trimPrefix a [45]).length)(i:(Lib.trimPrefix a [45]).length<=m)(j:Qm (Lib.trimPrefix a [45])=true):
 C_ 25 #[gS s,i_ (m:Nat)] w fun e w'=>∃x,e=Xa (tp #[x,G true])/\Qa w' x (sg (Lib.hasPrefix a [45]) (ZE (Lib.trimPrefix a [45]))) 1/\b_ w w':=by
 have l:QQ (w.alloc (cl #[G false,V_,V_] 66)) w.heap.size (G false) (V_) (V_):=Xn _ _ _ _ _;have b:b_ w (w.alloc (cl #[G false,V_,V_] 66)):=(qf _ _).alloc (zh _) _;have o:(w.alloc (cl #[G false,V_,V_] 66)).cell? (Xd 3 0 O)=E (i_ mx):=(b.cell (p:=(Xd 3 0 O)) c).trans k;have c:=Tryz.strings_Cut s ⟨#[47]⟩ mx (w.alloc (cl #[G false,V_,V_] 66)) hs o;have f:(ByteArray.mk #[47]).data.toList= [47]:=rfl;rw[f,hcut]at c;have q:=zf c;have d:=fun W=>zj1 ⟨a.toArray⟩ m W hm (by simpa using h) (by simpa using i) (by simpa using j)
 have g:(ByteArray.mk a.toArray).data.toList=a:=sp;rw[g]at d;have r:=zf d;generalize sg (Lib.hasPrefix a [45]) (ZE (Lib.trimPrefix a [45]))=z at *;clear c d g f hcut h i j k o hs;go_enter func25,ntmps25
 go_wp2_with fail
 refine q.out.mono ?_;rintro e c ⟨rfl,j,rfl⟩;go_wp2_with fail
 refine(r.out _).mono ?_;rintro e t ⟨x,rfl,g,f⟩;obtain⟨d,c,i,h,rfl,u,_⟩:=g.parts;have o:=(l.drewN j).below f;have j:b_ w t:=b.trans ((JJ f).mono b.size);have q:=o.alloc (cl #[G d,V c i h] 64);have r:=g.alloc (cl #[G d,V c i h] 64);have k:b_ w (t.alloc (cl #[G d,V c i h] 64)):=j.alloc j.size _;clear f o l g u b;go_wp2_with fail
 refine(zjQ _ _ z r).mono ?_;rintro e c ⟨_,rfl,g,b⟩;obtain⟨j,h,D,B,i,I,C,rfl,t,u,y,z,A⟩:=g.parts;have o:=q.below b;have l:b_ w c:=k.trans (b.mono k.size);obtain⟨c,d,f,_,_,_,_⟩:=o;clear b q r g;go_wp2;exact zH (v:=tp #[ag #[G j,V h D B,V i I C],G true]) (by simp[results,results25,go_sem,c,d,f]) rfl ⟨_,rfl,zbe t u y z A c d f,
  ((l.setCell sp _).setCell sp _).setCell sp _⟩
theorem overOK_ten:zfj 10:=zqe 10 om (znB 10 om)
theorem ten40(h:n<10^40):n<4294967296^10:=zbr h dc
theorem parseOK_text(p:Int)(q:Nat)(hq:0<q)(hc:Nat.gcd p.natAbs q=1)(hp:p.natAbs<10^40)(hqb:q<10^40):ParseOK ⟨(jL p q).toArray⟩ p q:=by
 rintro W ⟨_,mx,h1,h2⟩;have hl1:=zbS 40 _ hp om;have hl2:=zbS 40 _ hqb om;have hl3:=zrH p.natAbs;have hl4:=zrH q;have ht:=zhn p;have hl5:(Lib.itoa p).length<=41:=by
  unfold Lib.itoa;split
  ·simp;omega
  ·rw[show p.toNat=p.natAbs by omega];omega
 by_cases h:q=1
 ·subst h;rw[jL,zQ rfl];have hd:(ByteArray.mk (Lib.itoa p).toArray).data.toList=Lib.itoa p:=sp;refine(fracParse_whole ⟨(Lib.itoa p).toArray⟩ 40 W mx h1 h2 om (by rw[zfg];omega) (Lib.itoa p) (by rw[hd];exact cut_none _ (itoa_ne p)) (by rw[ht.1];omega) (by rw[ht.1];omega) (by rw[ht.1];exact zhY _)).mono ?_;rintro e w' ⟨x,rfl,hx,hb⟩;rw[ht.1,ht.2,zrL,zrM]at hx;exact⟨x,rfl,hx,hb⟩
 ·rw[jL,zO h];have hd:(ByteArray.mk (Lib.itoa p++([47]++Lib.decDigits q)).toArray).data.toList=Lib.itoa p++47::Lib.decDigits q:=sp;obtain⟨K,hK,hO,hz,hn⟩:∃K,K<=1073741822/\zfj K/\p.natAbs<4294967296^K/\q<4294967296^K:=⟨10,om,overOK_ten,ten40 hp,ten40 hqb⟩;have hq0:q≠0:=om;have hsz:(ByteArray.mk (Lib.itoa p++([47]++Lib.decDigits q)).toArray).size<4294967281:=by rw[zfg];simp;omega
  clear hp hqb;have c1:Lib.cut (ByteArray.mk (Lib.itoa p++([47]++Lib.decDigits q)).toArray).data.toList [47]=(Lib.itoa p,Lib.decDigits q,true):=by rw[hd];exact cut_at _ _ (itoa_ne p)
  have c2:0<(Lib.trimPrefix (Lib.itoa p) [45]).length:=by rw[ht.1];exact hl3
  have c3:(Lib.trimPrefix (Lib.itoa p) [45]).length<=40:=by rw[ht.1];exact hl1
  have c4:Qm (Lib.trimPrefix (Lib.itoa p) [45])=true:=by rw[ht.1];exact zhY _
  have c5:ZE (Lib.decDigits q)≠0:=by rw[zrL];exact hq0
  have c6:ZE (Lib.trimPrefix (Lib.itoa p) [45])<4294967296^K:=by rw[ht.1,zrL];exact hz
  have c7:ZE (Lib.decDigits q)<4294967296^K:=by rw[zrL];exact hn
  have c8:=zhY q;have c9:=fracParse_frac K hK hO ⟨(Lib.itoa p++([47]++Lib.decDigits q)).toArray⟩ 40 W mx h1 h2 om hsz (Lib.itoa p) (Lib.decDigits q) c1 c2 c3 c4 hl4 hl2 c8 c5 c6 c7;refine c9.mono ?_;rintro e w' ⟨x,z,hz,rfl,hx,hbw⟩;rw[ht.1,ht.2,zrL,zrM]at hz;subst hz;rw[zrL,hc]at hx;simp only[zdF,Int.ediv_one,Nat.div_one]at hx;exact⟨x,rfl,hx,hbw⟩
theorem planesCalc_of(b:Int)(s t r:ByteArray)(k:Int)(w:H)(h:C_ 21 #[i_ b,gS s,gS t] w fun e w'=>e=Xa (tp #[gS r,i_ k])/\b_ w w'):
 C_ 16 #[i_ b,gS s,gS t] w fun e w'=>e=Xa (tp #[gS r,i_ k])/\b_ w w':=by
 go_enter func16,ntmps16
 go_wp2_with fail
 apply h.mono;rintro e d ⟨rfl,c⟩;go_wp2;go_ret2;exact⟨rfl,c⟩
theorem ten40_5(h:n<10^40):n<4294967296^5:=zbr h dc
theorem mul40{x y:Nat}(b:x<10^40)(c:y<10^40):x*y<10^80:=by
 have h:=Nat.mul_lt_mul'' b c;rwa [<-Q6]at h
theorem add80{x y:Int}(b:x.natAbs<10^80)(c:y.natAbs<10^80):(x+y).natAbs<4294967296^10:=by
 have b:(x+y).natAbs<=x.natAbs+y.natAbs:=Int.natAbs_add_le _ _;omega
theorem lt80(h:n<10^80):n<4294967296^10:=zbr h dc
theorem red_cap(X:Int)(Y:Nat)(h:X.natAbs<4294967296^10):(X/(Nat.gcd X.natAbs Y:Int)).natAbs<Cap:=by
 have:=Int.natAbs_ediv_le_natAbs X (Nat.gcd X.natAbs Y:Int);unfold Cap;exact qu this h
theorem redd_cap(X:Int)(Y:Nat)(h:Y<4294967296^10):Y/Nat.gcd X.natAbs Y<Cap:=by
 have:=zdE Y (Nat.gcd X.natAbs Y);unfold Cap;exact qu this h
theorem lowText_frac(X:Int)(Y:Nat):lowText X Y=jL (X/(Nat.gcd X.natAbs Y:Int)) (Y/Nat.gcd X.natAbs Y):=by
 unfold lowText jL overText;rw[itoa_nat]
theorem calcN_plus(s t:ByteArray)(p r:Int)(q u:Nat)(hs:ParseOK s p q)(i:ParseOK t r u)(g:p.natAbs<10^40)(h:r.natAbs<10^40)(b:q<10^40)(c:u<10^40)(w:H)(hg:Gl w):
 C_ 16 #[i_ 1,gS s,gS t] w fun e w'=>e=Xa (tp #[gS ⟨(lowText (p*u+r*q) (q*u)).toArray⟩,i_ 0])/\b_ w w':=by
 have f:(p*(u:Int)+r*(q:Int)).natAbs<4294967296^10:=add80 (by rw[zbv];exact mul40 g (by simpa using c)) (by rw[zbv];exact mul40 h (by simpa using b));have d:q*u<4294967296^10:=lt80 (mul40 b c);rw[lowText_frac];exact planesCalc_of _ _ _ _ _ _ (calc_1 w _ _ p r _ q u _ hg hs i (fun W x y i j=>fplus_any 5 10 om om overOK_ten W x y p r q u i j (ten40_5 g) (ten40_5 h) (ten40_5 b) (ten40_5 c) f d) (red_cap _ _ f) (redd_cap _ _ d))
theorem calcN_times(s t:ByteArray)(p r:Int)(q u:Nat)(hs:ParseOK s p q)(i:ParseOK t r u)(b:p.natAbs<10^40)(d:r.natAbs<10^40)(c:q<10^40)(f:u<10^40)(w:H)(hg:Gl w):
 C_ 16 #[i_ 3,gS s,gS t] w fun e w'=>e=Xa (tp #[gS ⟨(lowText (p*r) (q*u)).toArray⟩,i_ 0])/\b_ w w':=by
 have h:(p*r).natAbs<4294967296^10:=by rw[zbv];exact lt80 (mul40 b d)
 have g:q*u<4294967296^10:=lt80 (mul40 c f);rw[lowText_frac];exact planesCalc_of _ _ _ _ _ _ (calc_3 w _ _ p r _ q u _ hg hs i (fun W x y i j=>ftimes_any 5 om overOK_ten W x y p r q u i j (ten40_5 b) (ten40_5 d) (ten40_5 c) (ten40_5 f)) (red_cap _ _ h) (redd_cap _ _ g))
theorem lowText_eq(X:Int)(Y:Nat):lowText X Y=jL (X/(Nat.gcd X.natAbs Y:Int)) (Y/Nat.gcd X.natAbs Y):=by
 unfold lowText jL overText;rw[itoa_nat]
theorem u8_back{c:UInt8}(h:48<=c.toNat):UInt8.ofNat (48+(c.toNat-48))=c:=by
 rw[show 48+(c.toNat-48)=c.toNat by omega];exact UInt8.ofNat_toNat
theorem dec_of(k:Nat):∀l:U_,l.length=k+1->Qm l=true->l.head?≠E 48->ZE l≠0/\Lib.decDigits (ZE l)=l:=by
 induction k with
 |zero=>
  intro l e d g;obtain⟨c,rfl⟩:=List.length_eq_one_iff.1 e;have f:=zgB (by simpa[Qm]using d);have b:c.toNat≠48:=by
   intro h;exact g (by rw[List.head?_cons];exact qm E (UInt8.toNat.inj h))
  have b:ZE [c]=c.toNat-48:=by simp[ZE]
  rw[b];refine⟨om,?_⟩;rw[Lib.decDigits,dif_pos om,u8_back f.1]
 |succ k m=>
  intro l e d g;have i:l≠ []:=by rintro rfl;simp at e
  obtain⟨b,c,rfl⟩:∃b c,l=b ++ [c]:=⟨l.dropLast,l.getLast i,(List.dropLast_concat_getLast i).symm⟩;have i:b.length=k+1:=by simpa using e
  rw[zk3]at d;simp only[Qj]at d;have j:b.head?≠E 48:=by
   intro h;apply g;cases b with
   |nil=>simp at i
   |cons a r=>simpa using h
  have⟨_,e⟩:=m b i d.1 j;have f:=zgB (by simpa[Qm]using d.2);rw[zf3];refine⟨om,?_⟩;rw[Lib.decDigits,dif_neg om,show(ZE b*10+(c.toNat-48))/10=ZE b by omega,show(ZE b*10+(c.toNat-48))%10=c.toNat-48 by omega,e,u8_back f.1]
def digT (l:U_):U_:=if l= []\/l.head? =E 48 then 55::l else l
theorem digT_dec(h:Qm l=true):∃n,digT l=Lib.decDigits n/\n≠0/\n<10^(l.length+1):=by
 have c:Qm (55::l)=true:=by
  have:Qm ([55]++l)=true:=by rw[zk3,h];decide
  exact this
 unfold digT;split
 ·have b:=dec_of l.length (55::l) sp c sp;exact⟨ZE (55::l),b.2.symm,b.1,by have:=zkp c;simpa using this⟩
 ·rename_i c
  rw[not_or]at c;have d:0<l.length:=ZC.2 c.1;have b:=dec_of (l.length-1) l om h c.2;refine⟨ZE l,b.2.symm,b.1,zbr (zkp h) ?_⟩;exact Nat.pow_lt_pow_right om om
def wT (z:Int):ByteArray:=⟨(Lib.itoa z).toArray⟩
def KC (op:Int)(s t r:ByteArray):Prop:=∀W,Gl W->C_ 9 #[i_ op,gS s,gS t] W fun e w'=>e=Xa (gS r)/\b_ W w'
theorem kc_of{b:Int}{t r:ByteArray}(h:∀W,Gl W->C_ 16 #[i_ b,gS s,gS t] W fun e w'=>e=Xa (tp #[gS r,i_ 0])/\b_ W w'):KC b s t r:=by
 intro w c;go_enter func9,ntmps9
 go_wp2_with fail
 apply((zf h).out _ c).mono;rintro e b ⟨rfl,b⟩;go_wp2;go_ret;exact⟨rfl,b⟩
theorem low_one(X:Int):lowText X 1=Lib.itoa X:=by
 rw[lowText_eq,Nat.gcd_one_right];simp[jL]
theorem parse_wT(z:Int)(h:z.natAbs<10^40):ParseOK (wT z) z 1:=by
 have:=parseOK_text z 1 om (Nat.gcd_one_right _) h dc;rwa [jL,zQ rfl]at this
theorem one40:1<10^40:=dc
theorem kc_plus(x y:Int)(b:x.natAbs<10^40)(c:y.natAbs<10^40):KC 1 (wT x) (wT y) (wT (x+y)):=by
 refine kc_of fun W d=>?_
 have h:=calcN_plus _ _ _ _ _ _ (parse_wT x b) (parse_wT y c) b c one40 one40 W d;simp only[zdF,zet,jM,low_one]at h;exact h
theorem kc_times(x y:Int)(b:x.natAbs<10^40)(c:y.natAbs<10^40):KC 3 (wT x) (wT y) (wT (x*y)):=by
 refine kc_of fun W d=>?_
 have h:=calcN_times _ _ _ _ _ _ (parse_wT x b) (parse_wT y c) b c one40 one40 W d;simp only[jM,low_one]at h;exact h
theorem wT_size(z:Int)(h:z.natAbs<10^40):(wT z).size<=41:=by
 have b:=zbS 40 _ h om;unfold wT;rw[zfg,Lib.itoa];split
 ·simp;omega
 ·rw[show z.toNat=z.natAbs by omega];omega
def digL (l:U_)(k:Nat):U_:=(l.take k).map fun c=>UInt8.ofNat (48+c.toNat%10)
theorem digL_all(l:U_)(k:Nat):Qm (digL l k)=true:=by
 unfold Qm digL;rw[Zi];intro c b;obtain⟨d,_,rfl⟩:=qP.1 b;have h:d.toNat%10<10:=Z0 _ om;have:=zhm h;simp only[zhV,this];simp;omega
theorem digL_len(l:U_)(k:Nat)(h:k<=l.length):(digL l k).length=k:=by
 simp[digL];omega
theorem digL_succ(l:U_)(k:Nat)(h:k<l.length):digL l (k+1)=digL l k ++ [UInt8.ofNat (48+l[k].toNat%10)]:=by
 unfold digL;rw[ZQ h,Z6];rfl
theorem zdP(s:ByteArray):s.data.toList.length=s.size:=js
theorem empty_no(h:s≠⟨#[]⟩):s.toList.isEmpty=false:=by
 rw[<-Go.decide_eq_emptyBytes];exact J2 h
theorem digT_seven{s:ByteArray}(h:s=⟨#[]⟩\/∃b:0<s.size,s[0].toNat=48):(⟨#[55]⟩:ByteArray)++s=⟨(digT s.data.toList).toArray⟩:=by
 have e:digT s.data.toList=55::s.data.toList:=by
  unfold digT;rw[zQ];rcases h with rfl|⟨b,h⟩
  ·exact Or.inl rfl
  ·right
   have⟨⟨l⟩⟩:=s;cases l with
   |nil=>simp[ByteArray.size]at b
   |cons c r=>exact qm E (UInt8.toNat.inj h)
 rw[e];apply ByteArray.ext;simp
theorem digT_same(h0:0<s.size)(h:s[0].toNat≠48):s=⟨(digT s.data.toList).toArray⟩:=by
 have e:digT s.data.toList=s.data.toList:=by
  unfold digT;rw[zO];rintro(h1|h1)
  ·obtain⟨⟨l⟩⟩:=s;simp only at h1;subst h1;simp[ByteArray.size]at h0
  ·obtain⟨⟨l⟩⟩:=s;cases l with
   |nil=>simp at h1
   |cons c r=>
    have hc:c=48:=by simpa using h1
    subst hc;exact h rfl
 rw[e]
theorem u8_digit(c:UInt8):wrap64 (48+(wrap64 (c.toNat:Int)).tmod 10)%256=((UInt8.ofNat (48+c.toNat%10)).toNat:Int):=by
 have b:c.toNat<256:=c.toNat_lt;rw[UInt8.toNat_ofNat',Go.IntWalk.wrap64_in c.toNat om,Int.tmod_eq_emod_of_nonneg om,Go.IntWalk.wrap64_in _ om];omega
theorem digits_any(c:ByteArray)(m:Nat)(hm:m<=30)(b:c.size<=9223372036854775807)(w:H):
 C_ 5 #[gS c,i_ (m:Nat)] w fun e w'=>∃n:Nat,e=Xa (gS (wT n))/\n≠0/\n<10^(m+1)/\b_ w w':=by
 go_enter func5,ntmps5
 go_wp2;go_loopw [5,6] (fun sv d wr=>∃(k:Nat) (b:ByteArray),k<=c.size/\k<=m/\sv=gS b/\b.size=k/\Hid (b=⟨(digL c.data.toList k).toArray⟩)/\d=i_ (k:Nat)/\b_ w wr) (fun _ d _=>((m:Int)-intOf d).toNat)
 case atStart=>exact⟨0,⟨#[]⟩,om,om,rfl,rfl,rfl,rfl,qf _ _⟩
 case round=>
  obtain⟨k,b,l,_,rfl,o,f,rfl,h⟩:=hrel;have j:Hid (∃n:Nat,(⟨(digT b.data.toList).toArray⟩:ByteArray)=wT n/\n≠0/\n<10^(m+1)):=by
   have p:b.data.toList=digL c.data.toList k:=by rw[f.out]
   obtain⟨n,d,i,g⟩:=digT_dec (digL_all c.data.toList k);rw[Hid,p];refine⟨n,by rw[d,wT,itoa_nat],i,zK g (ZD om ?_)⟩;rw[digL_len _ _ (by rw[zdP];exact l)];omega
  by_cases d:k<c.size
  ·by_cases i:k<m
   ·have i:Hid (b++⟨[UInt8.ofNat (48+c[k].toNat%10)].toArray⟩=⟨(digL c.data.toList (k+1)).toArray⟩):=by
     rw[Hid,digL_succ _ _ (by rw[zdP];exact d),f.out];exact JW _ _
    have d:=u8_digit c[k];have f:=zf d;obtain⟨u,hu⟩:∃u,UInt8.ofNat (48+c[k].toNat%10)=u:=⟨_,rfl⟩;rw[hu]at i;have l:=zf hu;clear d hu j;have c:(convert 46 9 (V (E (y_ wr 0)) 1 1)).run pg (wr.alloc (cl #[it .u8 (u.toNat:Int)] 5))= .ok (gS ⟨[u].toArray⟩) (wr.alloc (cl #[it .u8 (u.toNat:Int)] 5)):=run_convert_bytes_back (P:=pg) (wr.alloc (cl #[it .u8 (u.toNat:Int)] 5)) 46 9 5 (y_ wr 0) 1 [u] underlying46 underlying5 underlying9 (by
     intro p d;have:p=0:=by simp at d;omega
     subst this;simp[Addr.add])
    have d:=zf c;clear c;go_wp2;rw[f.out,l.out];rw[d.out];simp only[Result.andThen];rw[Oper.upon_value];have c:(ByteArray.mk [u].toArray).size=1:=rfl;generalize ByteArray.mk [u].toArray=c at *;go_wp2;go_roundw
    case rel=>exact⟨k+1,_,om,om,rfl,by rw[zbC];omega,i,by go_num,h.alloc h.size _⟩
    case measure=>simp[intOf];omega
   ·by_cases g:b=⟨#[]⟩
    ·subst g;obtain rfl:k=0:=o.symm;clear o;go_wp2;go_ret;obtain⟨n,c,d,f⟩:=j.out;exact⟨n,by rw[<-c,<-digT_seven (Or.inl rfl)];rfl,d,f,h⟩
    ·have l:0<b.size:=by
      rcases Qd b.size with i|i
      ·exact absurd (ByteArray.ext (Array.eq_empty_of_size_eq_zero i)) g
      ·exact i
     have q:=empty_no g;by_cases p:((b[0].toNat:Nat):Int)=48
     ·go_wp2;go_ret;obtain⟨n,c,d,f⟩:=j.out;exact⟨n,by rw[<-c,<-digT_seven (Or.inr ⟨l,om⟩)];rfl,d,f,h⟩
     ·go_wp2;go_ret;obtain⟨n,c,d,f⟩:=j.out;exact⟨n,by rw[<-c,<-digT_same l om];rfl,d,f,h⟩
  ·by_cases g:b=⟨#[]⟩
   ·subst g;obtain rfl:k=0:=o.symm;clear o;go_wp2;go_ret;obtain⟨n,c,d,f⟩:=j.out;exact⟨n,by rw[<-c,<-digT_seven (Or.inl rfl)];rfl,d,f,h⟩
   ·have l:0<b.size:=by
     rcases Qd b.size with i|i
     ·exact absurd (ByteArray.ext (Array.eq_empty_of_size_eq_zero i)) g
     ·exact i
    have q:=empty_no g;by_cases p:((b[0].toNat:Nat):Int)=48
    ·go_wp2;go_ret;obtain⟨n,c,d,f⟩:=j.out;exact⟨n,by rw[<-c,<-digT_seven (Or.inr ⟨l,om⟩)];rfl,d,f,h⟩
    ·go_wp2;go_ret;obtain⟨n,c,d,f⟩:=j.out;exact⟨n,by rw[<-c,<-digT_same l om];rfl,d,f,h⟩
end

namespace T
open Go.RowKit
theorem pow4 (i:Nat):10000^i=10^(4*i):=by rw[zew]
theorem ba_of {s:ByteArray}{l:U_}(h:s.data.toList=l):s=⟨l.toArray⟩:=by
 subst h;rfl
def okD (l:U_)(m:Nat):Bool:=decide (l≠ [])&&(decide (l.length<=m)&&Qm l)
def rdDown (T:U_):Nat:=if (Lib.cut T [47]).2.2 then ZE (Lib.cut T [47]).2.1 else 1
def rA (l:U_):Nat:=ZE (Lib.cut (Lib.trimPrefix l [45]) [47]).1
def rD (l:U_):Nat:=rdDown (Lib.trimPrefix l [45])
theorem okD_ten {A:U_}{m:Nat}(h:okD A m=true):ZE A<10^m:=by
 unfold okD at h;simp only[Qj,Z9]at h;exact zK (zkp h.2.2) (ZD om h.2.1)
def wZ (l:U_):Int:=sg (Lib.hasPrefix l [45]) (ZE (Lib.trimPrefix l [45]))
structure Tri where
 b:Bool
 u:S_
 d:S_
def Tri.up (t:Tri):Value:=V t.u.1 t.u.2.1 t.u.2.2
def Tri.down (t:Tri):Value:=V t.d.1 t.d.2.1 t.d.2.2
def Tri.val (t:Tri):Value:=ag #[G t.b,t.up,t.down]
end T

section
open Go.RowKit
variable {B a b c cap g k t:Nat}{l:List (Value×Nat×List Value)}{s:ByteArray}{v x:Value}{w w' w0:H}{xs:List Value}
theorem zi9{e size n:Nat}(h:w.ownsRow B e size v n xs)(hs:w.heap.size<=w'.heap.size)(q:∀g,v.ownBlock=E g->w'.heap[g]? =w.heap[g]?):w'.ownsRow B e size v n xs:=by
 obtain⟨b,i|⟨g,d,f,c,m,o,p,j,k,l⟩⟩:=h;·exact⟨b,Or.inl i⟩
 ·exact⟨b,Or.inr ⟨g,d,f,c,m,(q g (by rw[c];rfl)).trans o,p,j,k,l⟩⟩
theorem zj3{i j:Nat}{u:Value}(h:w.cell? (Xd g j O)=E u)(b:i≠j):(w.setCell (Xd g i O) v).cell? (Xd g j O)=E u:=by
 rw[zA _ _ _ _ (by intro e;injection e with _ b;omega)];exact h
structure Pen (B:Nat)(w:H)(l:List (Value×Nat×List Value)):Prop where
 own:∀(k:Nat) (v:Value) (t:Nat) (xs:List Value),l[k]? =E (v,t,xs)->w.ownsRow B t 1 v xs.length xs
 apart:∀(j k:Nat) (r q:Value×Nat×List Value),l[j]? =E r->l[k]? =E q->j≠k->∀g,r.1.ownBlock=E g->q.1.ownBlock≠E g
theorem Pen.same(h:Pen B w l)(hs:w.heap.size<=w'.heap.size)(hb:∀g,B<=g->g<w.heap.size->w'.heap[g]? =w.heap[g]?):Pen B w' l:=
 ⟨fun k v t c b=>zi9 (h.own k v t c b) hs (fun g d=>by have:=(h.own k v t c b).lt g d;exact hb g this.1 this.2),h.apart⟩
theorem Pen.grow(h:Pen B w l)(r:l[k]? =E (v,t,xs))(hg:w.grownBy w' v.ownBlock)(ho:w'.ownsRow B t 1 (V (E (Xd g 0 O)) (xs.length+1) cap) (xs.length+1) (xs ++ [x]))(d:v.ownBlock=E g\/g=w.heap.size):Pen B w' (l.set k (V (E (Xd g 0 O)) (xs.length+1) cap,t,xs ++ [x])):=by
 have s:(l.set k (V (E (Xd g 0 O)) (xs.length+1) cap,t,xs ++ [x]))[k]? =E (V (E (Xd g 0 O)) (xs.length+1) cap,t,xs ++ [x]):=by rw[jZ ((zo.1 r).1)]
 have m:∀j,j≠k->(l.set k (V (E (Xd g 0 O)) (xs.length+1) cap,t,xs ++ [x]))[j]? =l[j]?:=fun j b=>zal (Qr b)
 have y:∀j q,j≠k->l[j]? =E q->q.1.ownBlock≠E g:=by
  intro j q b c e;rcases d with i|i
  ·exact h.apart j k q _ c r b g e i
  ·have:=((h.own j q.1 q.2.1 q.2.2 c).lt g e).2;omega
 refine⟨fun j C A D b=>?_,fun o j z q d b p f c=>?_⟩
 ·by_cases e:j=k
  ·subst e;rw[s]at b;simp only[qN,Prod.mk.injEq]at b;obtain⟨rfl,rfl,rfl⟩:=b;rw[zM,ZH];exact ho
  ·rw[m j e]at b;have u:=h.own j C A D b;refine zi9 u hg.size (fun f c=>?_);exact hg.block f (u.lt f c).2 (fun i=>h.apart j k _ _ b r e f c i.symm)
 ·by_cases i:o=k
  ·subst i;rw[s]at d;simp only[qN]at d;subst d;rw[m j (Qr p)]at b;simp[Value.ownBlock]at c;subst c;exact y j q (Qr p) b
  ·rw[m o i]at d;by_cases r:j=k
   ·subst r;rw[s]at b;simp only[qN]at b;subst b;intro e;simp[Value.ownBlock]at e;subst e;exact y o z i d c
   ·rw[m j r]at b;exact h.apart o j z q d b p f c
theorem Pen.snoc(h:Pen B w l)(t:Nat):Pen B w (l ++ [(V_,t,[])]):=by
 have last:∀k q,l.length<=k->(l ++ [((V_:Value),t,([]:List Value))])[k]? =E q->q=(V_,t,[]):=by
  intro k q b c;rw[zG b]at c;have:k-l.length=0:=by
   have:=(zo.1 c).1;simp at this;omega
  rw[this]at c;simpa using c.symm
 refine⟨fun k v s o b=>?_,fun i j r q d e m f c=>?_⟩
 ·by_cases g:k<l.length
  ·rw[zS g]at b;exact h.own k v s o b
  ·have:=last k _ om b;simp only[Prod.mk.injEq]at this;obtain⟨rfl,rfl,rfl⟩:=this;exact zaf _ _ _ _
 ·by_cases b:i<l.length
  ·rw[zS b]at d;by_cases b:j<l.length
   ·rw[zS b]at e;exact h.apart i j r q d e m f c
   ·rw[last j _ om e];simp[Value.ownBlock]
  ·rw[last i _ om d]at c;simp[Value.ownBlock]at c
structure Sm (B gf gp:Nat)(w0 w:H)(s:ByteArray)(a:Nat)(l tl:List (Value×Nat×List Value)):Prop where
 lt:w0.heap.size<=gf/\gf<B/\w0.heap.size<=gp/\gp<B/\gf≠gp
 le:B<=w.heap.size
 fd:Zh w gf (gS s) (i_ (a:Nat))
 sz:a<=s.size
 box:∀(k:Nat) (r:Value×Nat×List Value),l[k]? =E r->w.cell? (Xd gp k O)=E r.1/\w.frozen? (Xd gp k O)=false
 pen:Pen B w (l++tl)
 low:Below w0.heap.size w0 w
theorem Sm.ext{d:List (Value×Nat×List Value)}(h:Sm B c b w0 w s a l d)(hb:Ext w w'):Sm B c b w0 w' s a l d:=by
 have e:b<w.heap.size:=by have:=h.lt;have:=h.le;omega
 refine⟨h.lt,zF h.le hb.size,Zh.below h.fd hb,h.sz,fun k r c=>?_,h.pen.same hb.size (fun g _ d=>hb.block g d),h.low.trans (hb.mono h.low.size)⟩;exact⟨hb.cell (h.box k r c).1,(qw (hb.block b e)).trans (h.box k r c).2⟩
theorem Sm.next{a':Nat}{e:List (Value×Nat×List Value)}(h:Sm B c b w0 w s a l e)(g:Zh w' c (gS s) (i_ (a':Nat)))(f:a'<=s.size)(d:Wr (fun k=>k=c) w w'):Sm B c b w0 w' s a' l e:=by
 have e:=h.lt;have i:b<w.heap.size:=by have:=h.le;omega
 refine⟨h.lt,zF h.le d.size,g,f,fun k r c=>?_,h.pen.same d.size (fun g f f=>d.block g f om),h.low.trans (d.below h.low.size (fun k c=>by rw[c];exact e.1))⟩;have e:=d.block b i (fun c=>e.2.2.2.2 c.symm);exact⟨(Zj e).trans (h.box k r c).1,(qw e).trans (h.box k r c).2⟩
theorem Sm.grown{d:Nat}{f l2 e:List (Value×Nat×List Value)}{row:Option Nat}(h:Sm B c d w0 w s a l f)(hg:w.grownBy w' row)(i:∀b,row=E b->B<=b)(j:Pen B w' (l2++e))(g:∀k r,l2[k]? =E r->w.cell? (Xd d k O)=E r.1/\w.frozen? (Xd d k O)=false):Sm B c d w0 w' s a l2 e:=by
 have e:=h.lt;have e:=h.le;have blk:∀b,b<B->w'.heap[b]? =w.heap[b]?:=fun b e=>hg.block b om (fun e=>by have:=i b e.symm;omega)
 refine⟨h.lt,zF h.le hg.size,?_,h.sz,fun k r f=>?_,j,?_⟩
 ·have⟨j,m,o,p,q⟩:=h.fd;have e:=blk c om;exact⟨(Zj e).trans j,(Zj e).trans m,(qw e).trans o,(qw e).trans p,zK q hg.size⟩
 ·have e:=blk d om;exact⟨(Zj e).trans (g k r f).1,(qw e).trans (g k r f).2⟩
 ·refine h.low.trans ⟨hg.os,hg.tape,hg.output,hg.size,fun k f=>hg.block k (by have:=h.low.size;omega) (fun e=>by have:=i k e.symm;omega)⟩
theorem Sm.field{f:Nat}{b:List (Value×Nat×List Value)}(h:Sm B f c w0 w s a l b)(o:l[k]? =E (v,t,xs))(hg:w.grownBy w' v.ownBlock)(ho:w'.ownsRow B t 1 (V (E (Xd g 0 O)) (xs.length+1) cap) (xs.length+1) (xs ++ [x]))(e:v.ownBlock=E g\/g=w.heap.size):Sm B f c w0 (w'.setCell (Xd c k O) (V (E (Xd g 0 O)) (xs.length+1) cap)) s a (l.set k (V (E (Xd g 0 O)) (xs.length+1) cap,t,xs ++ [x])) b:=by
 have p:=(zo.1 o).1;have d:(l++b)[k]? =E (v,t,xs):=by rw[zS p];exact o
 have j:=fun b i=>((h.pen.own k v t xs d).lt b i).1
 have u:=h.pen.grow d hg ho e;rw[List.set_append_left _ _ p]at u;have d:=h.lt;have d:=h.le;have q:∀b,b≠c->(w'.setCell (Xd c k O) (V (E (Xd g 0 O)) (xs.length+1) cap)).heap[b]? =w'.heap[b]?:=fun b i=>qC _ _ _ _ so
 have d:(w'.setCell (Xd c k O) (V (E (Xd g 0 O)) (xs.length+1) cap)).heap.size=w'.heap.size:=sp;have blk:∀b,b<B->w'.heap[b]? =w.heap[b]?:=fun b i=>hg.block b om (fun e=>by have:=j b e.symm;omega)
 have d:=hg.size;have m:∀j r,l[j]? =E r->w'.cell? (Xd c j O)=E r.1/\w'.frozen? (Xd c j O)=false:=fun j r d=>⟨(Zj (w:=w) (a:=⟨c,j,O⟩) (blk c om)).trans (h.box j r d).1,(qw (w:=w) (a:=⟨c,j,O⟩) (blk c om)).trans (h.box j r d).2⟩
 refine⟨h.lt,om,?_,h.sz,fun j r d=>?_,u.same om (fun b i _=>q b om),?_⟩
 ·obtain⟨c,u,y,z,_⟩:=h.fd;have e:=(q f om).trans (blk f om);exact⟨(Zj (w:=w) (a:=⟨f,0,O⟩) e).trans c,(Zj (w:=w) (a:=⟨f,1,O⟩) e).trans u,(qw (w:=w) (a:=⟨f,0,O⟩) e).trans y,(qw (w:=w) (a:=⟨f,1,O⟩) e).trans z,om⟩
 ·by_cases e:j=k
  ·subst e;rw[jZ p]at d;simp only[qN]at d;subst d;exact⟨zN _ _ _ (m j _ o).1,by simpa using (m j _ o).2⟩
  ·rw[zal (Qr e)]at d;exact⟨zj3 (m j r d).1 (Qr e),by simpa using (m j r d).2⟩
 ·refine h.low.trans ⟨hg.os,hg.tape,hg.output,om,fun b i=>?_⟩;exact(q b om).trans (blk b om)
theorem Sm.last{d:Nat}{b:List (Value×Nat×List Value)}(h:Sm B c d w0 w s a l (b ++ [(v,t,xs)]))(hg:w.grownBy w' v.ownBlock)(ho:w'.ownsRow B t 1 (V (E (Xd g 0 O)) (xs.length+1) cap) (xs.length+1) (xs ++ [x]))(e:v.ownBlock=E g\/g=w.heap.size):Sm B c d w0 w' s a l (b ++ [(V (E (Xd g 0 O)) (xs.length+1) cap,t,xs ++ [x])]):=by
 have c:(l++(b ++ [(v,t,xs)]))[(l++b).length]? =E (v,t,xs):=by
  rw[<-Zl,zG (zh _),Qn];rfl
 have b:=h.pen.grow c hg ho e;rw[<-Zl,List.set_append_right _ _ (zh _),Qn,Zl]at b;exact h.grown hg (fun b d=>((h.pen.own _ v t xs c).lt b d).1) b h.box
theorem Sm.start{d:List (Value×Nat×List Value)}(h:Sm B b c w0 w s a l d)(t:Nat):Sm B b c w0 w s a l (d ++ [(V_,t,[])]):=
 ⟨h.lt,h.le,h.fd,h.sz,h.box,by rw[<-Zl];exact h.pen.snoc t,h.low⟩
theorem Sm.far{e:Nat}{c:List (Value×Nat×List Value)}{j:Nat}{r:Value×Nat×List Value}(h:Sm B e b w0 w s a l c)(f:(l++c)[k]? =E (v,t,xs))(hg:w.grownBy w' v.ownBlock)(d:l[j]? =E r):w'.cell? (Xd b j O)=E r.1/\w'.frozen? (Xd b j O)=false:=by
 have c:=h.lt;have c:=h.le;have c:=hg.block b om (fun e=>by have:=((h.pen.own k v t xs f).lt b e.symm).1;omega);exact⟨(Zj c).trans (h.box j r d).1,(qw c).trans (h.box j r d).2⟩
def ivs (zs:L_):List Value:=zs.map fun z=>i_ z
section

variable {F:Fence} {n:Nat} {P:Program} {ops:Array Oper} {Q:Exit->Act->World->Prop} {md:Region.Mode} {fuel:Nat} {listed:Array Bool} {a:Act} {w:World}
theorem rj1 (i:Nat){o:Oper}(hr:Region.ready md ops listed= [i]:=by kernel_rfl)(ho:ops[i]? =some o:=by rfl)
 (h:∀K':Act->World->Prop,(∀a w,wpAnyIn F n P md ops Q fuel (listed.setIfInBounds i true) a w->K' a w)->if Region.wanted o (yielded ops a.tmps)=true then Oper.wpIn F n P o a w K' Q else(∀f,o.about P w a.eval=some f->F.fn f)/\K' (a.put o.dst undef) w):
 wpAnyIn F n P md ops Q (fuel+1) listed a w:=
 wpAnyIn_ready hr (by simp) (AllReadyIn.cons ho h AllReadyIn.nil)
theorem rj2 (i j:Nat){o o1:Oper}(hr:Region.ready md ops listed= [i,j]:=by kernel_rfl)(ho:ops[i]? =some o:=by rfl)(ho1:ops[j]? =some o1:=by rfl)
 (h:∀K':Act->World->Prop,(∀a w,wpAnyIn F n P md ops Q fuel (listed.setIfInBounds i true) a w->K' a w)->if Region.wanted o (yielded ops a.tmps)=true then Oper.wpIn F n P o a w K' Q else(∀f,o.about P w a.eval=some f->F.fn f)/\K' (a.put o.dst undef) w)
 (h1:∀K':Act->World->Prop,(∀a w,wpAnyIn F n P md ops Q fuel (listed.setIfInBounds j true) a w->K' a w)->if Region.wanted o1 (yielded ops a.tmps)=true then Oper.wpIn F n P o1 a w K' Q else(∀f,o1.about P w a.eval=some f->F.fn f)/\K' (a.put o1.dst undef) w):
 wpAnyIn F n P md ops Q (fuel+1) listed a w:=
 wpAnyIn_ready hr (by simp) (AllReadyIn.cons ho h (AllReadyIn.cons ho1 h1 AllReadyIn.nil))
variable {S:World->Prop}
theorem rd2 (i j:Nat){o o1:Oper}(hr:Region.ready md ops listed= [i,j]:=by kernel_rfl)(ho:ops.toList[i]? =some o:=by rfl)(ho1:ops.toList[j]? =some o1:=by rfl)
 (h:∀K':Act->World->Prop,Back P ops Q md S fuel (listed.setIfInBounds i true) K'->if Region.wanted o (yielded ops a.tmps)=true then Oper.wp P o a w K' Q else K' (a.put o.dst undef) w)
 (h1:∀K':Act->World->Prop,Back P ops Q md S fuel (listed.setIfInBounds j true) K'->if Region.wanted o1 (yielded ops a.tmps)=true then Oper.wp P o1 a w K' Q else K' (a.put o1.dst undef) w):wpAnyH P md ops Q S (fuel+1) listed a w:=
 wpAnyH_ready hr (by simp) (rdc (ho:=ho) (h:=h) (hs:=rdc (ho:=ho1) (h:=h1) (hs:=AllReadyH.nil)))
end

end

section
open Go.RowKit
theorem zqu (K:Nat):4294967296^K<=10^(10*K):=by
 rw[zew];exact Nat.pow_le_pow_left dc K
theorem zbg {n K:Nat}(h:n<4294967296^K):(Lib.decDigits n).length<=10*K+1:=by
 refine zbS (10*K+1) n (zK (zK h (zqu K)) ?_) om;exact ZD om om
theorem zku {z:Int}{K:Nat}(b:z.natAbs<4294967296^K):(Lib.itoa z).length<=10*K+2:=by
 unfold Lib.itoa;split
 ·have:=zbg b;simp;omega
 ·have e:z.toNat=z.natAbs:=om;rw[e];have:=zbg b;omega
theorem zj4 (K:Nat)(hK:K<=1000000)(w:H)(v:Value)(n:Nat)(T:NatV w v n)(t:n≠0)(hn:n<4294967296^K)(ak:Tab w):
 C_ 42 #[v] w fun e w'=>e=Xa (gS ⟨(Lib.decDigits n).toArray⟩)/\b_ w w':=by
 go_enter func42,ntmps42
 go_wp2_with fail
 apply(jW _ _ _ T t).mono;rintro e w0 ⟨rfl,rfl⟩;go_wp2_with fail
 apply(zny _ _ n K T t hn om).mono;rintro e b ⟨_,c,rfl,hx,af,R,ae,_,r⟩;obtain⟨_,_,rfl,_,hr⟩:=hx;have u:c≠ []:=by rintro rfl;exact t R.symm
 obtain⟨D,off,rfl,hg,ah⟩:=hr u;have W:Hid (JD c=Lib.decDigits n):=by rw[Hid,JD,zO u,R]
 have o:=zf af;have A:=zf ae;have a7:Lib.IsBuilderF 148 5 b.heap.size b.heap.size (Lib.byteCells []) (b.alloc (cl #[pn O,V_] 148)):=by
  refine Or.inl ⟨zh _,V_,zC _ _,?_,by simp[Value.ownBlock]⟩;exact World.ownsRowF_of (zaf _ _ _ _)
 go_wp2;go_loopw [5] (fun x wr=>∃k:Nat,k<=c.length/\x=i_ (k-1)/\Lib.IsBuilderF 148 5 b.heap.size b.heap.size (Lib.byteCells (JD (c.drop k))) wr/\b_ b wr) (fun x _=>(intOf x+1).toNat)
 case atStart=>exact⟨c.length,zh _,rfl,by rw[QP (zh _)];exact a7,(qf _ _).alloc (zh _) _⟩
 case round=>
  obtain⟨k,_,rfl,q,d⟩:=hrel;cases k with
  |zero=>
   rw[Q2,W.out]at q;go_wp2_with fail
   apply(Tryz.Builder_String_any_k b.heap.size b.heap.size _ _ q d.size).mono;rintro e y ⟨rfl,_,i,_⟩;go_wp2;go_ret;exact⟨rfl,r.trans ((d.trans i).mono r.size)⟩
  |succ k=>
   have ap:=(d.cell hg).trans (ah k om);have an:=(ak.below r).below d;have ad:=zlI o.out k om;have C:=zf (zow o.out A.out (k+1) (c.length-(k+1)) om);have B:Hid (if k+1=c.length then JD (c.drop k)=Lib.decDigits (c.getD k 0)/\JD (c.drop (k+1))= []else JD (c.drop k)=JD (c.drop (k+1))++(List.replicate (9-(Lib.decDigits (c.getD k 0)).length) 48++Lib.decDigits (c.getD k 0))):=by
    rw[Hid];split
    ·exact zi7 k om
    ·exact zi6 o.out A.out k om
   generalize c.getD k 0=g at *;have aq:=zbS 9 g ad om;go_wp2_with fail
   apply(zjZ g om _ an).mono;rintro e y ⟨rfl,i⟩;have s:=zfs q i;have j:=d.trans (i.mono d.size);have ai:=zdo (Lib.decDigits g);by_cases N:k+1=c.length
   ·have f:=B.out;rw[zQ N]at f;rw[f.2]at s;go_wp2_with fail
    apply(zeU b.heap.size b.heap.size (Lib.byteCells []) _ _ s (by rw[(zf ai).out];simp[Lib.byteCells];omega) j.size).mono;rintro e z ⟨rfl,h,l,_⟩;have a0:Lib.IsBuilderF 148 5 b.heap.size b.heap.size (Lib.byteCells (JD (c.drop k))) z:=by
     right
     rw[zdd,Q7,<-(zf f.1).out]at h;exact h
    go_wp2;go_roundw
    case rel=>exact⟨k,om,by go_num,a0,j.trans l⟩
    case measure=>simp[intOf];omega
   ·have f:=B.out;rw[zO N]at f;generalize hB:ByteArray.mk (Lib.decDigits g).toArray=sB at *;generalize hL:(Lib.decDigits g).length=L at *;go_wp2_with fail
    have Z:(9:Int)-L=((9-L:Nat):Int):=om;rw[Z];apply(Tryz.strings_Repeat ⟨#[48]⟩ (9-L) y om (by rw[show(ByteArray.mk #[48]).size=1 from rfl];omega)).mono;rintro e z ⟨rfl,h⟩;have l:=j.trans (h.mono j.size);have aj:(ByteArray.mk (Lib.repeatL (ByteArray.mk #[48]).data.toList (9-L)).toArray).size=9-L:=by
     rw[zdo,show(ByteArray.mk #[48]).data.toList= [48]from rfl,zgY,zbz]
    go_wp2_with fail
    apply(zeU b.heap.size b.heap.size (Lib.byteCells (JD (c.drop (k+1)))) _ _ (zfs s h) (by rw[(zf aj).out];have:=C.out;simp[Lib.byteCells];omega) l.size).mono;rintro e w4 ⟨rfl,I,a5,_⟩;rw[zdd,zgY]at I;have M:=l.trans a5;go_wp2_with fail
    apply(zeU b.heap.size b.heap.size _ sB _ (Or.inr I) (by have:=C.out;simp[Lib.byteCells];omega) M.size).mono;rintro e w5 ⟨rfl,J,a6,_⟩;have a2:Lib.IsBuilderF 148 5 b.heap.size b.heap.size (Lib.byteCells (JD (c.drop k))) w5:=by
     right
     rw[<-(zf hB).out,zdd,Zl,<-(zf f).out]at J;exact J
    go_wp2;go_roundw
    case rel=>exact⟨k,om,by go_num,a2,M.trans a6⟩
    case measure=>simp[intOf]
theorem zcK (K:Nat)(d:K<=1000000)(w:H)(v:Value)(n:Nat)(c:NatV w v n)(f:n<4294967296^K)(g:Tab w):
 C_ 42 #[v] w fun e w'=>e=Xa (gS ⟨(Lib.decDigits n).toArray⟩)/\b_ w w':=by
 by_cases b:n=0
 ·subst b;exact zj0 w v c
 ·exact zj4 K d w v n c b f g
theorem zbT (K:Nat)(h:K<=1000000)(w:H)(x:Value)(z:Int)(b:zy w x z)(g:z.natAbs<4294967296^K)(j:Tab w):
 C_ 41 #[x] w fun e w'=>e=Xa (gS ⟨(Lib.itoa z).toArray⟩)/\b_ w w':=by
 obtain⟨c,d,l,f,rfl,k,i⟩:=b.parts;have b:b_ w (w.alloc (cl #[G c,V d l f] 64)):=(qf _ _).alloc (zh _) _;cases c with
 |true=>
  have c:z<0:=by have:=i.out;simp at this;omega
  have d:=zbg g;have d:Hid (ByteArray.mk #[45]++ByteArray.mk (Lib.decDigits z.natAbs).toArray=ByteArray.mk (Lib.itoa z).toArray):=by
   rw[Hid,Lib.itoa,zQ c];exact JW [45] _
  go_enter func41,ntmps41
  go_wp2_with fail
  apply(zcK K h _ _ _ (k.alloc _) g (j.below b)).mono;rintro e l ⟨rfl,f⟩;generalize Lib.decDigits z.natAbs=m at *;go_wp2;go_ret;exact⟨by rw[<-d.out];rfl,b.trans (f.mono b.size)⟩
 |false=>
  have c:¬z<0:=by have:=i.out;simp at this;omega
  have d:Hid (Lib.itoa z=Lib.decDigits z.natAbs):=by
   rw[Hid,Lib.itoa,zO c];congr 1
   omega
  go_enter func41,ntmps41
  go_wp2_with fail
  apply(zcK K h _ _ _ (k.alloc _) g (j.below b)).mono;rintro e l ⟨rfl,f⟩;go_wp2;go_ret;exact⟨by rw[d.out];rfl,b.trans (f.mono b.size)⟩
theorem zja (K:Nat)(u:K<=1000000)(w:H)(x:Value)(p:Int)(q:Nat)(b:Qa w x p q)(v:p.natAbs<4294967296^K)(A:q<4294967296^K)(B:Tab w):
 C_ 26 #[x] w fun e w'=>e=Xa (gS ⟨(jL p q).toArray⟩)/\b_ w w':=by
 have z:=b;obtain⟨c,d,l,f,g,j,h,rfl,k,i,C,J,_⟩:=b.parts;have r:QQ (w.alloc (cl #[G c,V d l f,V g j h] 66)) w.heap.size (G c) (V d l f) (V g j h):=Xn _ _ _ _ _;have o:b_ w (w.alloc (cl #[G c,V d l f,V g j h] 66)):=(qf _ _).alloc (zh _) _;have D:zy w (ag #[G c,V d l f]) p:=⟨c,_,rfl,k,i⟩;by_cases m:q=1
 ·subst m;have t:Hid (jL p 1=Lib.itoa p):=by rw[Hid,jL,zQ rfl]
  go_enter func26,ntmps26
  go_wp2_with fail
  refine(zf2 _ _ p (z.alloc _)).mono ?_;rintro e s ⟨rfl,b⟩;have y:=(D.alloc (cl #[G c,V d l f,V g j h] 66)).below b;have k:=r.below b;obtain⟨L,M,N,R,T,U,W⟩:=k;have i:=o.trans (b.mono o.size);clear b r;go_wp2_with fail
  refine(zbT K u _ _ p y v (B.below i)).mono ?_;rintro e I ⟨rfl,I⟩;go_wp2;go_ret;exact⟨by rw[t.out];rfl,i.trans (I.mono i.size)⟩
 ·rw[(zgc J m).1]at C;have I:=zku v;have I:=zbg A;have t:Hid (ByteArray.mk (Lib.itoa p).toArray++ByteArray.mk #[47]++ByteArray.mk (Lib.decDigits q).toArray=ByteArray.mk (jL p q).toArray):=by
   rw[Hid,jL,zO m];have I:ByteArray.mk (Lib.itoa p).toArray++ByteArray.mk #[47]=ByteArray.mk (Lib.itoa p ++ [47]).toArray:=JW _ [47];rw[I,JW,Zl]
  go_enter func26,ntmps26
  go_wp2_with fail
  refine(zgv _ _ p q (z.alloc _) m).mono ?_;rintro e s ⟨rfl,b⟩;have y:=(D.alloc (cl #[G c,V d l f,V g j h] 66)).below b;have z:=(C.alloc (cl #[G c,V d l f,V g j h] 66)).below b;have k:=r.below b;have m:=k;obtain⟨L,M,N,R,T,U,W⟩:=m;have i:=o.trans (b.mono o.size);have o:=B.below i;have m:Tab s.drew:=o;clear b r;go_wp2;go_region_held (fun w'=>w'.cell? (y_ w 0)=E (G c)/\w'.cell? (y_ w 1)=E (V d l f)/\w'.cell? (y_ w 2)=E (V g j h)) (go_keep) (first|(go_at_call 42;refine(zcK K u _ _ q ((z.drew).below b) A (m.below b)).mono ?_;rintro e c ⟨rfl,d⟩;have c:=(k.drew.below b).below d;obtain⟨_,_,_,_,_,_,_⟩:=c)|(go_at_call 41;refine(zbT K u _ _ p (by exact y.drewN 1) v (by exact m)).mono ?_;rintro e f ⟨rfl,b⟩;have c:=k.drew.below b;obtain⟨_,_,_,_,_,_,_⟩:=c))
  all_goals go_wp2
  all_goals go_ret
  all_goals
   have c:=i.trans ((ze1 b).mono i.size);exact⟨by rw[<-t.out];rfl,c.trans (d.mono c.size)⟩
end

namespace T
open Go.RowKit
theorem cut_join (c:UInt8):∀l:U_,(Lib.cut l [c]).2.2=true->l=(Lib.cut l [c]).1++c::(Lib.cut l [c]).2.1
 |[],h=>by rw[zqf]at h;cases h
 |x::r,h=>by
  by_cases b:x=c
  ·subst b;rw[zix];rfl
  ·rw[zfJ b]at h⊢;have:=cut_join c r h;show x::r=x::((Lib.cut r [c]).1++c::(Lib.cut r [c]).2.1)
   rw[<-this]
theorem cut_at {c:UInt8}{l:U_}{i:Nat}(hi:i<(Lib.cut l [c]).1.length):∃h:i<l.length,l[i]=(Lib.cut l [c]).1[i]:=by
 cases hb:(Lib.cut l [c]).2.2 with
 |false=>
  have b:(Lib.cut l [c]).1=l:=by rw[(zjU hb)]
  have e:i<l.length:=by rw[b]at hi;exact hi
  refine⟨e,?_⟩;simp only[b]
 |true=>
  have d:=cut_join c l hb;have e:i<l.length:=by rw[d,zM];omega
  refine⟨e,?_⟩;have b:l[i]? =(Lib.cut l [c]).1[i]?:=by
   conv=>lhs;rw[d]
   rw[zS hi]
  rw[zg e,zg hi]at b;exact Q8 b
