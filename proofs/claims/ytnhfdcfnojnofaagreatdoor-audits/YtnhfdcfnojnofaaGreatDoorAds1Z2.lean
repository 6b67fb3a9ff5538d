import Derived.Test.YtnhfdcfnojnofaaGreatDoorAds1Z1
open Option renaming none->O,some->E
open Go.Value renaming slice->V,int->it
open Go.Obj renaming cells->cl
open Go renaming World->H
open Go.Proofs.Tryz renaming prog->pg
open Go.Proofs.Tryz
set_option linter.unusedSimpArgs false
set_option linter.unusedVariables false
set_option maxHeartbeats 2000000
set_option maxRecDepth 100000
namespace Go.Proofs.YtnhfdcfnojnofaaGreatDoor
open Go.RowKit
section
variable {P:Program} {ops:Array Oper} {Q:Exit->Act->World->Prop} {md:Region.Mode} {S:World->Prop}
theorem tkv (i:Nat){oi:Oper}{v:Value}{fuel:Nat}{listed:Array Bool}{a b:Act}{w:World}(hi:ops.toList[i]? =some oi:=by rfl)
 (hs:Region.noSelect ops=true:=by kernel_rfl) (hf:Region.free md ops listed i=true:=by kernel_rfl) (hr:(Region.ready md ops listed).contains i=true:=by kernel_rfl)
 (hw:Region.wanted oi (yielded ops a.tmps)=true:=by rfl) (hv:∀w,S w->(execOp a.eval oi).run P w= .ok (.value v) w:=by(intro w hSw;(try dsimp only at hSw);go_simp;try with_reducible rfl))
 (hQ:∀c a w,Q (.panic c) (a.put oi.dst v) w->Q (.panic c) a w:=by first|exact fun _ _ _ h=>h|exact fun _ _ _ h=>absurd h.1 (by simp))
 (hS:S w:=by assumption) (hb:a.put oi.dst v=b:=by((try simp only[Act.put,jT,zbG,zbH]);rfl))
 (h:wpAnyH P md ops Q S fuel (listed.setIfInBounds i true) b w):wpAnyH P md ops Q S (fuel+1) listed a w:=
 wpAnyH_take (by simpa using hi) hs hf hr hQ (Or.inl ⟨hw,hv⟩) hS (by rw[hb];exact h)
theorem tks (i:Nat){oi:Oper}{fuel:Nat}{listed:Array Bool}{a b:Act}{w:World}(hi:ops.toList[i]? =some oi:=by rfl)
 (hs:Region.noSelect ops=true:=by kernel_rfl) (hf:Region.free md ops listed i=true:=by kernel_rfl) (hr:(Region.ready md ops listed).contains i=true:=by kernel_rfl)
 (hw:Region.wanted oi (yielded ops a.tmps)=false:=by rfl)
 (hQ:∀c a w,Q (.panic c) (a.put oi.dst undef) w->Q (.panic c) a w:=by first|exact fun _ _ _ h=>h|exact fun _ _ _ h=>absurd h.1 (by simp))
 (hS:S w:=by assumption) (hb:a.put oi.dst undef=b:=by((try simp only[Act.put,jT,zbG,zbH]);rfl))
 (h:wpAnyH P md ops Q S fuel (listed.setIfInBounds i true) b w):wpAnyH P md ops Q S (fuel+1) listed a w:=
 wpAnyH_take (by simpa using hi) hs hf hr hQ (Or.inr ⟨hw,rfl⟩) hS (by rw[hb];exact h)
def Back (P:Program)(ops:Array Oper)(Q:Exit->Act->H->Prop)(md:Region.Mode)(S:H->Prop)(fuel:Nat)(listed:Array Bool)(K:Act->H->Prop):Prop:=
 ∀(a:Act) (w:H) (_:S w) {b:Act} (_:a=b:=by((try simp only[Act.put,jT,zbG,zbH]);rfl)) (_:S w->wpAnyH P md ops Q S fuel listed b w),K a w
theorem Back.out {c:Nat}{d:Array Bool}{K:Act->H->Prop}(e:Back P ops Q md S c d K)(a:Act)(w:H)(f:S w){b:Act}(g:a=b:=by((try simp only[Act.put,jT,zbG,zbH]);rfl))(h:S w->wpAnyH P md ops Q S c d b w):K a w:=e a w f g h
theorem rdc {c:Nat}{d:Array Bool}{a:Act}{w:H}{i:Nat}{o:Oper}{rs:List Nat}(ho:ops.toList[i]? =E o:=by rfl)
 (h:∀b:Act->H->Prop,Back P ops Q md S c (d.setIfInBounds i true) b->if Region.wanted o (yielded ops a.tmps)=true then Oper.wp P o a w b Q else b (a.put o.dst undef) w)
 (hs:AllReadyH P md ops Q S c d a w rs):AllReadyH P md ops Q S c d a w (i::rs):=
 AllReadyH.cons (by simpa using ho) (fun K c=>h K (fun a w b d e d=>c.out a w b (fun b=>by rw[e];exact d b))) hs
theorem rd1 (i:Nat){fuel:Nat}{listed:Array Bool}{a:Act}{w:World}{o:Oper}(hr:Region.ready md ops listed= [i]:=by kernel_rfl)(ho:ops.toList[i]? =some o:=by rfl)
 (h:∀K':Act->World->Prop,Back P ops Q md S fuel (listed.setIfInBounds i true) K'->if Region.wanted o (yielded ops a.tmps)=true then Oper.wp P o a w K' Q else K' (a.put o.dst undef) w):wpAnyH P md ops Q S (fuel+1) listed a w:=
 wpAnyH_ready hr (by simp) (rdc (ho:=ho) (h:=h) (hs:=AllReadyH.nil))
end
end Go.Proofs.YtnhfdcfnojnofaaGreatDoor
namespace Go.Proofs.YtnhfdcfnojnofaaGreatDoor
open Go.RowKit
theorem zgU (w:H)(b c cap D:Nat)(ds:List Nat)(g:ds.length<=cap)(h:ds.length<=1073741824)(j:0<D)(f:D<4294967296)
 (d:Row w b c ds) (p:zbE w b c ds.length) (m:Dig ds):
 Calls pg 224 #[V (E ⟨b,c,O⟩) ds.length cap,it .u32 (D:Nat)] w fun e w'=>
  ∃a r,e= .returned (it .u32 (r:Nat))/\r<D/\a.length=ds.length/\Dig a/\Row w' b c a/\Upd b c ds.length w w'/\val ds=D*val a+r:=by
 go_enter func224,ntmps224
 go_wp2;go_loopw [5,6] (fun f i wr=>∃(k r:Nat) (a:List Nat),k<=ds.length/\r<D/\i=it .i64 ((k:Int)-1)/\f=it .u64 (r:Nat)/\Hid (a.length=ds.length)/\Dig a/\Row wr b c a/\Upd b c ds.length w wr/\
  Hid (a.take k=ds.take k)/\Hid (val (ds.drop k)=D*val (a.drop k)+r)) (fun _ i _=>(intOf i+1).toNat)
 case atStart=>exact⟨ds.length,0,ds,zh _,j,rfl,rfl,rfl,m,d,Upd.refl _ _ _ _,rfl,by simp[Hid,val]⟩
 case round=>
  obtain⟨k,r,a,_,n,rfl,rfl,d,l,g,i,o,f⟩:=hrel;cases k with
  |zero=>
   have h:=zi f.out;simp only[Zd]at h;clear f;go_wp2;go_ret;exact⟨a,r,by go_num,n,d.out,l,g,i,h.out⟩
  |succ k=>
   have h:k<a.length:=by rw[d.out];omega
   have a:=g k h;rw[zfz o.out]at a;have a:=m.get k;have m:=i.free p k om;have c:=zi (zmV h d.out f.out);have m:=div_bd a n;have n:=g.setCell k ((ds.getD k 0+4294967296*r)/D) h;have h:=i.setCell k (show k<ds.length by omega) (it .u32 (((ds.getD k 0+4294967296*r)/D:Nat):Int));have g:=zeI r (ds.getD k 0) om a;have a:=Qx (ds.getD k 0+4294967296*r) j;have g:ds.getD k 0+4294967296*r<18446744073709551616:=om;generalize ds.getD k 0=x at *;have g:((x+4294967296*r:Nat):Int)/(D:Int)=(((x+4294967296*r)/D:Nat):Int):=sp;have g:((x+4294967296*r:Nat):Int)%(D:Int)=(((x+4294967296*r)%D:Nat):Int):=sp;generalize (x+4294967296*r)/D=q at *;generalize (x+4294967296*r)%D=i at *;generalize x+4294967296*r=y at *;clear f;go_wp2;go_roundw
   case rel=>exact⟨k,i,_,om,a,by go_num,by rw[g],by rw[Hid,Zf,d.out],l.set _ _ m,n,h,by rw[Hid,zgi];exact zhS o.out,c.out⟩
   case measure=>simp[intOf]
theorem Tryz.info131:(Tryz.prog.info? 224).map (fun i=>(i.zero,i.size,i.bytes))=E (E (it .u32 0),1,4):=kr
theorem times_any (w:H)(u v:Value)(m n J K:Nat)(D:NatV w u m)(X:NatV w v n)(hm:m<4294967296^J)(hn:n<4294967296^K)(hK:J+K<=1073741824):
 Calls pg 204 #[u,v] w fun e w'=>∃x,e= .returned x/\NatV w' x (m*n)/\Below w.heap.size w w':=by
 by_cases C:m=0
 ·subst C;go_enter func204,ntmps204
  go_wp2_with (go_at_call 77;refine(zaF _ _ D).mono ?_;rintro e w' ⟨rfl,rfl⟩)
  go_ret;exact⟨_,rfl,by rw[zcD];exact NatV.zero _ _ _,zR _ _⟩
 ·by_cases W:n=0
  ·subst W;go_enter func204,ntmps204
   go_wp2_with fail
   refine(Jq _ _ _ D C).mono ?_;rintro e w' ⟨rfl,rfl⟩;go_wp2_with fail
   refine(zaF _ _ X).mono ?_;rintro e w' ⟨rfl,rfl⟩;go_wp2;go_ret;exact⟨_,rfl,by rw[Z7];exact NatV.zero _ _ _,zR _ _⟩
  ·have a9:=D;have aa:=X;obtain⟨b,⟨_,_,rfl,M,hr⟩,T,ht,rfl⟩:=D;obtain⟨a,⟨_,_,rfl,_,az⟩,ar,aE,rfl⟩:=X;have hl:=ht.len hm;have aL:=aE.len hn;obtain⟨a1,aH,rfl,hb,a7⟩:=hr (fun e=>C (by rw[e];rfl));obtain⟨b',aI,rfl,ak,a8⟩:=az (fun e=>W (by rw[e];rfl));obtain⟨i0,hi,af,ah,ai⟩:=qL Tryz.info131;go_enter func204,ntmps204
   go_wp2_with fail
   refine(Jq _ _ _ a9 C).mono ?_;rintro e w' ⟨rfl,rfl⟩;go_wp2_with fail
   refine(Jq _ _ _ aa W).mono ?_;rintro e w' ⟨rfl,rfl⟩;go_wp2_with (at_make;refine zgw _ rfl _ _ 99 rfl 224 i0 underlying99 hi af ah ai _ _ _ _ (b.length+a.length) rfl rfl sp sp om ?_;intro r aC a3 s aD)
   have aK:=s.size;have aF:=Upd.refl w'.heap.size 0 (b.length+a.length) r;have aA:=a7.below s hb;have aB:=a8.below s ak;have ap:a1≠w'.heap.size:=om;have aq:b'≠w'.heap.size:=om;generalize a4:w'.heap.size=h at *;have HG:=zi a4;clear a4;clear hi af ah ai a9 aa a7 a8;go_loopw [25] (fun a0 wr=>∃(k:Nat) (f:List Nat),k<=b.length/\a0=it .i64 (k:Nat)/\Hid (f.length=b.length+a.length)/\Dig f/\Row wr h 0 f/\Upd h 0 (b.length+a.length) r wr/\
    Hid (val (f.take (k+a.length))=val (b.take k)*val a)) (fun a0 _=>b.length-(intOf a0).toNat)
   case atStart=>
    refine⟨0,List.replicate (b.length+a.length) 0,qp _,rfl,by simp[Hid],?_,aC,aF,?_⟩;·intro d T;rw[zdv]at T;omega
    ·rw[Hid,List.take_replicate,val_replicate];simp[val]
   case round=>
    obtain⟨k,f,_,rfl,t,N,R,F,Y⟩:=hrel;by_cases ay:k<b.length
    ·have hx:=F.other ap aA k ay;have ad:=T.get k;generalize ab:b.getD k 0=d at *;have aj:=zi ab;clear ab;go_wp2;go_loopw [8,32] (fun cv jv wq=>∃(j c:Nat) (g:List Nat),j<=a.length/\c<4294967296/\jv=it .i64 (j:Nat)/\cv=it .u64 (c:Nat)/\Hid (g.length=b.length+a.length)/\Dig g/\Row wq h 0 g/\Upd h 0 (b.length+a.length) r wq/\
      Hid (g.drop (k+j)=f.drop (k+j))/\Hid (val (g.take (k+j))+4294967296^(k+j)*c=val (f.take (k+j))+4294967296^k*(d*val (a.take j)))) (fun _ jv _=>a.length-(intOf jv).toNat)
     case atStart=>exact⟨0,0,f,qp _,om,rfl,rfl,t,N,R,F,rfl,by simp[Hid,val]⟩
     case round=>
      obtain⟨j,c,g,_,M,rfl,rfl,A,a2,B,q,U,I⟩:=hrel;by_cases ax:j<a.length
      ·have i:k+j<g.length:=by rw[A.out];omega
       have hy:=q.other aq aB j ax;have ae:=ar.get j;have Z:=B (k+j) i;rw[zaZ U.out,qi]at Z;have aG:=N.get (k+j);have av:wr.frozen? ⟨h,k+j,O⟩=false:=by have:=q.free a3 (k+j) om;rwa [qi]at this
       have L:=zi (zmW i U.out I.out);have o:=B.setCell (k+j) ((c+(d*a.getD j 0+f.getD (k+j) 0))%4294967296) i;have p:=q.setCell (k+j) (show k+j<b.length+a.length by omega) (it .u32 (((c+(d*a.getD j 0+f.getD (k+j) 0))%4294967296:Nat):Int));obtain⟨al,an⟩:=zn8 M ad ae aG;generalize a.getD j 0=y at *;generalize f.getD (k+j) 0=z at *;rw[qi]at o p;obtain⟨_,_⟩:=ziO d y ad ae;have au:((d*y:Nat):Int)=(d:Int)*(y:Int):=sp;have e1:(((c+(d*y+z))%4294967296:Nat):Int)=((c:Int)+(d*y+z))%4294967296:=om;have e2:(((c+(d*y+z))/4294967296:Nat):Int)=((c:Int)+(d*y+z))/4294967296:=om;rw[e1]at o p;have E2:=zi e2;have aJ:(c:Int)+(d*y+z)<18446744073709551616:=om;clear I e1 e2 au al;go_wp2;go_roundw
       case rel=>exact⟨j+1,(c+(d*y+z))/4294967296,_,om,an,by go_num,by rw[E2.out],by rw[Hid,Zf,A.out],a2.set _ _ (Qx _ dc),o,p,by rw[Hid,<-zaz,QN];exact zad U.out,L.out⟩
       case measure=>simp[intOf];omega
      ·have a5:j=a.length:=om;have l:=I.out;rw[a5,zy (zh a.length)]at l;have i:k+a.length<g.length:=by rw[A.out];omega
       have L:=zi (zn7 i aj.out.symm l Y.out);have Z:=B (k+a.length) i;have o:=B.setCell (k+a.length) c i;have p:=q.setCell (k+a.length) (show k+a.length<b.length+a.length by omega) (it .u32 (c:Int));have av:wr.frozen? ⟨h,k+a.length,O⟩=false:=by have:=q.free a3 (k+a.length) om;rwa [qi]at this
       rw[qi]at Z o p;generalize ((g.getD (k+a.length) 0:Nat):Int)=zz at *;clear I l a5;go_wp2;go_roundw
       case rel=>exact⟨k+1,_,om,by go_num,by rw[Hid,Zf,A.out],a2.set _ _ M,o,p,L.out⟩
       case measure=>simp[intOf];omega
    ·have a6:k=b.length:=om;have l:=Y.out;rw[a6,zy (by rw[t.out];omega),zy (zh b.length)]at l;have HV:=zi l;have aw:h<wr.heap.size:=by rw[F.size];exact aD
     clear Y l a6;go_wp2_with fail
     refine(trim_any _ h 0 (b.length+a.length) (b.length+a.length) f om om (by rw[t.out];omega) R).mono ?_;rintro e w2 ⟨rfl,rfl⟩;go_wp2;go_ret;refine⟨_,rfl,?_,?_⟩
     ·rw[<-HV.out];exact natV_trim R N aw t.out (zh _)
     ·rw[HG.out];exact s.trans (F.below (zh _))
def OwnU (w w':H)(v:Value)(ds:List Nat):Prop:=
 ∃ao cap,v=V ao ds.length cap/\ds.length<=cap/\(ds≠ []->∃g,ao=E ⟨g,0,O⟩/\w.heap.size<=g/\g<w'.heap.size/\Row w' g 0 ds/\zbE w' g 0 ds.length)
theorem zfA (w:H)(v:Value)(ds:List Nat)(a:U32s w v ds)(N:ds.length<=1073741824):
 Calls pg 223 #[v] w fun e w'=>∃x,e= .returned x/\OwnU w w' x ds/\Below w.heap.size w w':=by
 obtain⟨t,b,rfl,_,l⟩:=a;have c:=fun w=>zcx (P:=pg) w 99 224 t ds.length b 0 0 underlying99
 by_cases z:ds= []
 ·subst z;cases t with
  |none=>
   clear l c;have c:=fun w=>zcx (P:=pg) w 99 224 O 0 b 0 0 underlying99
   go_enter func223,ntmps223
   go_wp2;go_ret;exact⟨_,rfl,⟨O,0,rfl,zh _,fun h=>absurd rfl h⟩,zR _ _⟩
  |some s=>
   clear l c;have c:=fun w=>zcx (P:=pg) w 99 224 (E s) 0 b 0 0 underlying99
   obtain⟨q,j,n,o,p⟩:=qL Tryz.info131;go_enter func223,ntmps223
   go_wp2_with (at_builtin;refine qQ _ rfl _ _ 99 rfl w.heap.size 224 q (it .u32 0) 1 4 underlying99 j n o p rfl dc (V (E ⟨w.heap.size,0,O⟩) 0 0) 0 [] rfl (World.ownsRow_lit w #[] 0 (zh _) mo rfl) s 0 b [] rfl rfl sp sp mo om sp ?_;intro r M d i k)
   go_ret;have m:r≠V O 0 0:=fun e=>by have:=k.1 e;simp at this
   obtain⟨y,f,a,g,A,B,C,D⟩:=owns_parts (ds:= []) d m;exact⟨_,rfl,⟨_,f,a,sp,fun h=>absurd rfl h⟩,((zR _ _).alloc (zh _) _).grown i sp (fun L h=>by simp[Value.ownBlock]at h;omega)⟩
 ·obtain⟨u,F,rfl,I,J⟩:=l z;obtain⟨q,j,n,o,p⟩:=qL Tryz.info131;have K:Row (w.alloc (Obj.cells #[] 224)) u F ds:=J.below ((zR _ _).alloc (zh _) _) I;go_enter func223,ntmps223
  go_wp2_with (at_builtin;refine qQ _ rfl _ _ 99 rfl w.heap.size 224 q (it .u32 0) 1 4 underlying99 j n o p rfl dc (V (E ⟨w.heap.size,0,O⟩) 0 0) 0 [] rfl (World.ownsRow_lit w #[] 0 (zh _) mo rfl) ⟨u,F,O⟩ ds.length b (ds.map encD) rfl sp (row_news K) (encD_one ds) mo om sp ?_;intro r M d i k)
  go_ret;have m:r≠V O 0 0:=fun e=>by have:=k.1 e;simp at this
  rw[JV]at d;obtain⟨y,f,a,g,A,B,C,D⟩:=owns_parts d m;rw[qi]at a g;exact⟨_,rfl,⟨_,f,a,g,fun _=>⟨y,rfl,A,B,C,D _⟩⟩,((zR _ _).alloc (zh _) _).grown i sp (fun L h=>by simp[Value.ownBlock]at h;omega)⟩
theorem Tryz.size131:(Tryz.prog.info? 224).map (·.size)=E 1:=kr
theorem zaj {w:H}{v:Value}{n:Nat}(h:NatV w v n){K:Nat}(e:n<4294967296^K):∃ds,U32s w v ds/\Dig ds/\Top ds/\val ds=n/\ds.length<=K:=by
 obtain⟨ds,c,d,a,b⟩:=h;exact⟨ds,c,d,a,b,a.len (by rw[b];exact e)⟩
theorem plus_any (w:H)(u v:Value)(m n K:Nat)(i:NatV w u m)(k:NatV w v n)(g:m<4294967296^K)(h:n<4294967296^K)(c:K<=1073741823):
 Calls pg 221 #[u,v] w fun e w'=>∃x,e= .returned x/\NatV w' x (m+n)/\Below w.heap.size w w':=by
 obtain⟨c,j,f,p,rfl,_⟩:=zaj i g;obtain⟨d,l,r,q,rfl,_⟩:=zaj k h;have T:=j;have U:=l;obtain⟨_,_,rfl,_,o⟩:=j;obtain⟨_,_,rfl,_,j⟩:=l;obtain⟨Z,R,W,X,Y⟩:=qL Tryz.info131;clear o j g h p q i k;by_cases g:c.length<d.length
 ·go_enter func221,ntmps221
  go_wp2_with (first|(at_make;refine zhT _ rfl _ _ 99 rfl 224 Z underlying99 R W X Y _ _ _ _ (d.length+1) rfl rfl sp sp om ?_;intro w1 y h)|(refine ziQ rfl _ _ _ _ rfl 224 underlying99 Tryz.size131 w.heap.size _ _ _ (List.replicate (d.length+1) 0) d rfl sp rfl (U.below h) y.out sp w.heap.size w h (zh _) ?_;intro N j i))
  have B:d++(List.replicate (d.length+1) 0).drop d.length=d ++ [0]:=by rw[zc8,show d.length+1-d.length=1 by omega];rfl
  rw[B]at j;obtain⟨I,C,J⟩:=row_of_block j.out;have F:(d ++ [0]).length=d.length+1:=sp;have A:Dig (d ++ [0]):=Dig.append r (by intro a1 f;simp at f;omega);have g:=zeB N w.heap.size 0 (d.length+1) (d ++ [0]) c _ om om om I (C _) A (T.away i w.heap.size (zh _)) f;rw[F]at g;refine g.mono ?_;rintro e q ⟨rfl,s,a0,D,z,l,o,p⟩;have M:=ziP (a:=d) (b:=c) r f om (p.trans (by rw[val_append];simp[val]));have t:=i.trans (o.below (zh _));have L:w.heap.size<q.heap.size:=by rw[o.size];exact J
  clear g p;go_wp2_with fail
  refine(trim_any _ w.heap.size 0 (d.length+1) (d.length+1) s om om om l).mono ?_;rintro e w4 ⟨rfl,rfl⟩;go_wp2;go_ret;refine⟨_,rfl,?_,t⟩;have k:=natV_trim (n:=d.length+1) l z L D (zh _);rw[M,za0 (val d) (val c)]at k;exact k
 ·go_enter func221,ntmps221
  go_wp2_with (first|(at_make;refine zhT _ rfl _ _ 99 rfl 224 Z underlying99 R W X Y _ _ _ _ (c.length+1) rfl rfl sp sp om ?_;intro w1 y h)|(refine ziQ rfl _ _ _ _ rfl 224 underlying99 Tryz.size131 w.heap.size _ _ _ (List.replicate (c.length+1) 0) c rfl sp rfl (T.below h) y.out sp w.heap.size w h (zh _) ?_;intro N j i))
  have B:c++(List.replicate (c.length+1) 0).drop c.length=c ++ [0]:=by rw[zc8,show c.length+1-c.length=1 by omega];rfl
  rw[B]at j;obtain⟨I,C,J⟩:=row_of_block j.out;have F:(c ++ [0]).length=c.length+1:=sp;have A:Dig (c ++ [0]):=Dig.append f (by intro a1 f;simp at f;omega);have g:=zeB N w.heap.size 0 (c.length+1) (c ++ [0]) d _ om om om I (C _) A (U.away i w.heap.size (zh _)) r;rw[F]at g;refine g.mono ?_;rintro e q ⟨rfl,s,a0,D,z,l,o,p⟩;have M:=ziP (a:=c) (b:=d) f r om (p.trans (by rw[val_append];simp[val]));have t:=i.trans (o.below (zh _));have L:w.heap.size<q.heap.size:=by rw[o.size];exact J
  clear g p;go_wp2_with fail
  refine(trim_any _ w.heap.size 0 (c.length+1) (c.length+1) s om om om l).mono ?_;rintro e w4 ⟨rfl,rfl⟩;go_wp2;go_ret;refine⟨_,rfl,?_,t⟩;have k:=natV_trim (n:=c.length+1) l z L D (zh _);rw[M]at k;exact k
theorem U32s.drewN {w:H}{v:Value}{ds:List Nat}(h:U32s w v ds)(q:Nat):U32s (w.drewN q) v ds:=h
theorem NatV.drewN {w:H}{v:Value}{n:Nat}(h:NatV w v n)(q:Nat):NatV (w.drewN q) v n:=h
theorem Qt {B q:Nat}{w w':H}(h:Below B (w.drewN q) w'):Below B w w':=⟨h.os,h.tape,h.output,h.size,h.block⟩
theorem zdD {B q:Nat}{w w':H}(h:Below B w w'):Below B w (w'.drewN q):=⟨h.os,h.tape,h.output,h.size,h.block⟩
theorem zmY (w:H)(a:Option Addr)(cap:Nat):
 Calls pg 225 #[V a 0 cap] w fun e w'=>e= .returned (V a 0 cap)/\w'=w:=by
 go_enter func225,ntmps225
 go_wp2;go_loop [0] (fun v=>v=V a 0 cap) lenOf
 case atStart=>rfl
 case round=>
  subst hrel;go_wp2;go_ret;exact⟨rfl,rfl⟩
theorem zio (w:H)(a b:Option Addr)(cap c n:Nat)(f:Int):
 Calls pg 312 #[V a 0 cap,V b n c,it .u32 f] w fun e w'=>e= .returned (it .u64 0)/\w'=w:=by
 go_enter func312,ntmps312
 go_wp2;go_loop [7,8,13] (fun c b i=>c=it .u64 0/\b=it .u64 0/\i=it .i64 0) (fun _ _ _=>0)
 case atStart=>exact⟨rfl,rfl,rfl⟩
 case round=>
  obtain⟨rfl,rfl,rfl⟩:=hrel;go_wp2;go_ret;exact⟨rfl,rfl⟩
theorem zgV {w f:H}{v x:Value}{ds c:List Nat}(l:OwnU w f x ds)(h:Below w.heap.size w f)(A:ds.length<=1073741824)(s:Dig ds)(t:Dig c)(p:U32s w v c)(m:c.length<=ds.length)
 (z:val c<=val ds):
 Calls pg 312 #[x,v,it .u32 1] f fun e d=>(∃r:Nat,e= .returned (it .u64 (r:Nat)))/\Below w.heap.size w d/\
  Calls pg 225 #[x] d fun e i=>∃y,e= .returned y/\NatV i y (val ds-val c)/\Below w.heap.size w i:=by
 obtain⟨j,g,rfl,k,B⟩:=l;by_cases l:ds= []
 ·subst l;have o:=QM.1 (by simpa using m);subst o;obtain⟨o,q,rfl,_,_⟩:=p;refine(zio f j o g q 0 1).mono ?_;rintro e d ⟨rfl,rfl⟩;refine⟨⟨0,rfl⟩,h,?_⟩;refine(zmY _ j g).mono ?_;rintro e i ⟨rfl,rfl⟩;exact⟨_,rfl,NatV.zero _ _ _,h⟩
 ·obtain⟨j,rfl,o,u,C,q⟩:=B l;refine(zfe f j 0 g 1 ds c v k A m om C q s (p.away h j o) t).mono ?_;rintro e d ⟨s,r,rfl,_,m,l,p,q,t⟩;have f:=h.trans (q.below o);refine⟨⟨r,rfl⟩,f,?_⟩;refine(trim_any d j 0 g ds.length s k om om p).mono ?_;rintro e i ⟨rfl,rfl⟩;refine⟨_,rfl,?_,f⟩;have d:=natV_trim (n:=ds.length) p l (by rw[q.size];exact u) m k;rw[sub_fits (a:=ds) (b:=c) l m z t]at d;exact d
theorem zhV (w:H)(u v:Value)(m n K:Nat)(s:NatV w u m)(t:NatV w v n)(o:m<4294967296^K)(p:n<4294967296^K)(a:K<=1073741823):
 Calls pg 297 #[u,v] w fun e w'=>∃x,e= .returned x/\NatV w' x ((m-n)+(n-m))/\Below w.heap.size w w':=by
 obtain⟨a,A,j,d,_,_⟩:=zaj s o;obtain⟨b,B,k,D,_,_⟩:=zaj t p;by_cases c:m<n
 ·have l:a.length<=b.length:=by
   rcases Z8 b.length a.length with h|h
   ·have:=d.lt_of_len k h;omega
   ·exact h
  go_enter func297,ntmps297
  go_wp2_with fail
  refine(compare_any w u v m n K s t o p om).mono ?_;rintro e z ⟨rfl,q,rfl⟩;rw[zaA c];go_wp2_with fail
  refine(zfA (w.drewN q) v b B om).mono ?_;rintro e z ⟨x,rfl,r,f⟩;have g:=zgV r f om k j (A.drewN q) l om;go_wp2_with fail
  refine g.mono ?_;rintro e I ⟨⟨F,rfl⟩,C,i⟩;go_wp2_with fail
  refine i.mono ?_;rintro e J ⟨L,rfl,y,d⟩;go_wp2;go_ret;refine⟨_,rfl,?_,Qt d⟩;have c:(m-n)+(n-m)=val b-val a:=om;rw[c];exact y
 ·have l:b.length<=a.length:=by
   rcases Z8 a.length b.length with h|h
   ·have:=D.lt_of_len j h;omega
   ·exact h
  have D:0<=QL m n:=by
   rcases Z8 n m with h|h
   ·rw[zaB h];omega
   ·rw[zcw om];omega
  go_enter func297,ntmps297
  go_wp2_with fail
  refine(compare_any w u v m n K s t o p om).mono ?_;rintro e z ⟨rfl,q,rfl⟩;generalize QL m n=h at *;go_wp2_with fail
  refine(zfA (w.drewN q) u a A om).mono ?_;rintro e z ⟨x,rfl,r,f⟩;have g:=zgV r f om j k (B.drewN q) l om;go_wp2_with fail
  refine g.mono ?_;rintro e I ⟨⟨F,rfl⟩,C,i⟩;go_wp2_with fail
  refine i.mono ?_;rintro e J ⟨L,rfl,y,d⟩;go_wp2;go_ret;refine⟨_,rfl,?_,Qt d⟩;have c:(m-n)+(n-m)=val a-val b:=om;rw[c];exact y
end Go.Proofs.YtnhfdcfnojnofaaGreatDoor
namespace Go.Proofs.YtnhfdcfnojnofaaGreatDoor.T
open Go.RowKit
def Row (w:H)(b off:Nat)(ds:List Nat):Prop:=
 ∀i,i<ds.length->w.cell? ⟨b,off+i,O⟩=E (it .i64 ((ds.getD i 0:Nat):Int))
def U32s (w:H)(v:Value)(ds:List Nat):Prop:=
 ∃ao cap,v=V ao ds.length cap/\ds.length<=cap/\(ds≠ []->∃b off,ao=E ⟨b,off,O⟩/\b<w.heap.size/\Row w b off ds)
def NatV (w:H)(v:Value)(n:Nat):Prop:=∃ds,U32s w v ds/\Dig ds/\Top ds/\val ds=n
theorem Row.below {w w':H}{b a B:Nat}{ds:List Nat}(h:Row w b a ds)(d:Below B w w')(c:b<B):Row w' b a ds:=
 fun i e=>(d.cell (p:=⟨b,a+i,O⟩) c).trans (h i e)
theorem U32s.below {w w':H}{v:Value}{ds:List Nat}(h:U32s w v ds)(a:Below w.heap.size w w'):U32s w' v ds:=by
 obtain⟨b,c,e,d,f⟩:=h;refine⟨b,c,e,d,fun e=>?_⟩;obtain⟨c,i,d,b,g⟩:=f e;exact⟨c,i,d,zv b a.size,g.below a b⟩
theorem NatV.below {w w':H}{v:Value}{n:Nat}(h:NatV w v n)(d:Below w.heap.size w w'):NatV w' v n:=by
 obtain⟨a,b,c⟩:=h;exact⟨a,b.below d,c⟩
theorem Row.take {w:H}{b a:Nat}{ds:List Nat}(h:Row w b a ds)(n:Nat):Row w b a (ds.take n):=by
 intro i a;rw[zU]at a;rw[h i om,zk,zk,JL,z8 om]
theorem Row.append {w:H}{b c:Nat}{a ys:List Nat}(h:Row w b c a)(k:Row w b (c+a.length) ys):Row w b c (a++ys):=by
 intro i d;rw[zX]at d;by_cases d:i<a.length
 ·rw[h i d,zk,zk,zM d]
 ·have:=k (i-a.length) om;rw[show c+a.length+(i-a.length)=c+i by omega]at this;rw[this,zk,zk,zJ om]
theorem U32s.mk {w:H}{b a cap:Nat}{ds:List Nat}(h:Row w b a ds)(c:b<w.heap.size)(d:ds.length<=cap):U32s w (V (E ⟨b,a,O⟩) ds.length cap) ds:=
 ⟨_,cap,rfl,d,fun _=>⟨b,a,rfl,c,h⟩⟩
theorem row_of_owns {w:H}{base e g n cap:Nat}{ds:List Nat}(h:w.ownsRow base e 1 (V (E ⟨g,0,O⟩) n cap) n (ds.map fun d:Nat=>it .i64 (d:Int)))(a:ds.length=n):Row w g 0 ds:=by
 intro i a;have:=h.cellAt i om;rw[qi,this,zQ,zj a,zk,zj a];rfl
def encD (d:Nat):Value:=it .i64 (d:Int)
theorem owns_parts {w:H}{base e n:Nat}{v:Value}{ds:List Nat}(h:w.ownsRow base e 1 v n (ds.map encD))(i:v≠V O 0 0):
 ∃g cap,v=V (E ⟨g,0,O⟩) n cap/\n<=cap/\base<=g/\g<w.heap.size/\Row w g 0 ds/\∀m,zbE w g 0 m:=by
 have a:=h;obtain⟨b,c|⟨g,cap,_,j,d,_,f,_,_,_⟩⟩:=h;·exact absurd c.1 i
 ·subst j;rw[zo,Qe]at b;exact⟨g,cap,rfl,f,d,(zbb a).2,row_of_owns a b,fun m=>zd7 a m⟩
theorem encD_one (ds:List Nat):∀u∈ds.map encD,u.oneCell'=true:=by
 intro u a;obtain⟨_,_,rfl⟩:=ZC.1 a;rfl
theorem row_news {w:H}{b a:Nat}{ds:List Nat}(h:Row w b a ds):∀j u,(ds.map encD)[j]? =E u->w.cell? ((⟨b,a,O⟩:Addr).add j)=E u:=by
 intro j u a;rw[zQ]at a;cases hd:ds[j]? with
 |none=>rw[hd]at a;simp at a
 |some d=>
  rw[hd,Zz,z7]at a;have c:=(zn.1 hd).1;have:=h j c;rw[zk,hd,Zg]at this;subst a;by_cases a:j=0
  ·subst a;simpa[Addr.add,encD]using this
  ·simpa[Addr.add,encD,a]using this
def QE (w:H)(g:Nat):Prop:=∃c fr,w.heap[g]? =E (cl c 3 fr)
theorem QE.below {w w':H}{g B:Nat}(h:QE w g)(d:Below B w w')(b:g<B):QE w' g:=by
 obtain⟨c,a,h⟩:=h;exact⟨c,a,(d.block g b).trans h⟩
theorem QE.setCell {w:H}{g:Nat}(h:QE w g)(a:Addr)(x:Value):QE (w.setCell a x) g:=by
 obtain⟨c,d,h⟩:=h;by_cases b:g=a.block
 ·subst b;unfold QE World.setCell;simp only[zcy,jo,h,Zz];exact⟨_,_,rfl⟩
 ·exact⟨c,d,(zK w a x g b).trans h⟩
def Sl (w:H)(v:Value)(ds:List Nat):Prop:=
 (v=V O 0 0/\ds= [])\/∃g off cap,v=V (E ⟨g,off,O⟩) ds.length cap/\ds.length<=cap/\g<w.heap.size/\Row w g off ds/\QE w g
def NV (w:H)(v:Value)(n:Nat):Prop:=∃ds,Sl w v ds/\Dig ds/\Top ds/\val ds=n
theorem Sl.below {w w':H}{v:Value}{ds:List Nat}(h:Sl w v ds)(b:Below w.heap.size w w'):Sl w' v ds:=by
 rcases h with h|⟨g,j,c,d,e,a,f,i⟩
 ·exact Or.inl h
 ·exact Or.inr ⟨g,j,c,d,e,zv a b.size,f.below b a,i.below b a⟩
theorem NV.below {w w':H}{v:Value}{n:Nat}(h:NV w v n)(d:Below w.heap.size w w'):NV w' v n:=by
 obtain⟨a,b,c⟩:=h;exact⟨a,b.below d,c⟩
theorem NV.alloc {w:H}{v:Value}{n:Nat}(h:NV w v n)(o:Obj):NV (w.alloc o) v n:=h.below ((zR _ _).alloc (zh _) _)
theorem NV.drew {w:H}{v:Value}{n:Nat}(h:NV w v n):NV w.drew v n:=h
theorem NV.drewN {w:H}{v:Value}{n:Nat}(h:NV w v n)(q:Nat):NV (w.drewN q) v n:=h
theorem Sl.shape {w:H}{v:Value}{ds:List Nat}(h:Sl w v ds):∃a cap,v=V a ds.length cap/\ds.length<=cap:=by
 rcases h with ⟨rfl,rfl⟩|⟨_,_,cap,rfl,a,_⟩
 ·exact⟨O,0,rfl,zh _⟩
 ·exact⟨_,_,rfl,a⟩
theorem Sl.row {w:H}{b:Option Addr}{l cap:Nat}{ds:List Nat}(h:Sl w (V b l cap) ds)(e:ds≠ []):∃g a,b=E ⟨g,a,O⟩/\g<w.heap.size/\Row w g a ds:=by
 rcases h with ⟨h,rfl⟩|⟨g,a,_,b,_,c,d,_⟩
 ·exact absurd rfl e
 ·simp only[zV]at b;obtain⟨rfl,_,_⟩:=b;exact⟨g,a,rfl,c,d⟩
theorem trim_any (w:H)(v:Value)(ds:List Nat)(a:Sl w v ds)(b:ds.length<=140737488355328):
 Calls pg 293 #[v] w fun e w'=>(∃x,e= .returned x/\Sl w' x (ds.take (Q6 ds ds.length)))/\w'=w:=by
 rcases a with ⟨rfl,rfl⟩|⟨b,f,a,rfl,_,l,g,n⟩
 ·go_enter func293,ntmps293
  go_wp2;go_loop [3] (fun v=>v=it .i64 0) (fun v=>(intOf v).toNat)
  case atStart=>rfl
  case round=>
   subst hrel;go_wp2;go_ret;exact⟨⟨_,rfl,Or.inl ⟨rfl,rfl⟩⟩,rfl⟩
 ·go_enter func293,ntmps293
  go_wp2;go_loop [3] (fun v=>∃k:Nat,k<=ds.length/\Hid (Q6 ds ds.length=Q6 ds k)/\v=it .i64 (k:Nat)) (fun v=>(intOf v).toNat)
  case atStart=>exact⟨ds.length,zh _,rfl,rfl⟩
  case round=>
   obtain⟨k,m,d,rfl⟩:=hrel;have c:∀j,Q6 ds ds.length=j->j=k->Sl w (V (E ⟨b,f,O⟩) k a) (ds.take (Q6 ds ds.length)):=by
    intro j h i;subst i;rw[h];exact Or.inr ⟨b,f,a,by rw[zU,ZL m],by rw[zU];omega,l,g.take _,n⟩
   have b:=zi c;clear c;cases k with
   |zero=>
    go_wp2;go_ret;exact⟨⟨_,rfl,b.out 0 d.out rfl⟩,rfl⟩
   |succ k=>
    have f:=g k om;by_cases a:ds.getD k 0=0
    ·rw[a]at f;have c:Hid (ds.getD k 0=0):=a;clear a b;go_wp2;go_round
     case rel=>exact⟨k,om,by rw[Hid,d.out,Q6,z8 c.out],by go_num⟩
     case measure=>simp[intOf]
    ·have h:((ds.getD k 0:Nat):Int)≠0:=om;generalize g:((ds.getD k 0:Nat):Int)=x at f h;clear g;have c:Hid (¬ds.getD k 0=0):=a;clear a;go_wp2;go_ret;exact⟨⟨_,rfl,b.out (k+1) (by rw[d.out,Q6,zW c.out]) rfl⟩,rfl⟩
theorem zd2 {w:H}{v:Value}{ds:List Nat}{n:Nat}(h:Sl w v (ds.take (Q6 ds ds.length)))(a:Dig ds)(b:val ds=n):NV w v n:=
 ⟨_,h,a.take _,zfx _ _ (zh _),by rw[val_trimL _ _ (zh _),zy (zh _),b]⟩
theorem compare_any (w:H)(u v:Value)(m n K:Nat)(W:NV w u m)(X:NV w v n)(F:m<10000^K)(I:n<10000^K)(Z:K<=1073741824):
 Calls pg 186 #[u,v] w fun e w'=>e= .returned (it .i64 (QL m n))/\∃q,w'=w.drewN q:=by
 obtain⟨a,t,r,y,rfl⟩:=W;obtain⟨b,x,s,z,rfl⟩:=X;have hl:=zaC y F;have U:=zaC z I;obtain⟨_,_,rfl,_⟩:=t.shape;obtain⟨_,_,rfl,N⟩:=x.shape;rcases Jo a.length b.length with f|f|f
 ·have d:Hid (QL (val a) (val b)=-1):=zaA (zbl r z f);have R:(a.length:Int)<(b.length:Int):=om;go_enter func186,ntmps186
  go_wp2;go_ret;exact⟨QW d.out.symm,0,rfl⟩
 ·have c:Hid (a.length=b.length):=f;clear F I y z;rw[<-f];rw[<-f]at N U;go_enter func186,ntmps186
  go_wp2;go_loopw [5] (fun A wr=>∃k:Nat,k<=a.length/\A=it .i64 ((k:Int)-1)/\Hid (a.drop k=b.drop k)/\∃q,wr=w.drewN q) (fun A _=>(intOf A+1).toNat)
  case atStart=>exact⟨a.length,zh _,by rw[c.out],by rw[Hid,Z6 (zh _),Z6 (by rw[c.out];exact zh _)],0,rfl⟩
  case round=>
   obtain⟨k,D,rfl,p,q,rfl⟩:=hrel;cases k with
   |zero=>
    go_wp2;go_ret;refine⟨QW ?_,q,rfl⟩;rw[zcw (by rw[<-Zd (l:=a),p.out,Zd])]
   |succ k=>
    obtain⟨_,_,rfl,_,J⟩:=t.row (by intro e;simp[e]at D);obtain⟨_,_,rfl,_,L⟩:=x.row (by intro e;rw[Hid,e]at c;simp at c;simp[c]at D);have T:k<b.length:=by have:=c.out;omega
    have a0:=J k om;have a1:=L k T;have a2:=r.get k;have a3:=s.get k;have a4:(0:Int)<=(k:Int):=om;have a5:((k:Int)).toNat=k:=om;have a6:(k:Int)<(a.length:Int):=om;have i:Hid (a.getD k 0<b.getD k 0->val a<val b):=fun h=>val_lt_at r c.out k om p.out h
    have j:Hid (b.getD k 0<a.getD k 0->val b<val a):=fun h=>val_lt_at s c.out.symm k om p.out.symm h
    have o:Hid (a.getD k 0=b.getD k 0->a.drop k=b.drop k):=fun h=>zgS c.out k om p.out h
    clear J L t x;generalize a.getD k 0=B at *;generalize b.getD k 0=C at *;rcases Jo B C with g|g|g
    ·have d:Hid (QL (val a) (val b)=-1):=zaA (i.out g);have Y:(B:Int)<(C:Int):=om;clear i j o;go_wp2;go_region
     all_goals go_wp2
     go_ret;exact⟨QW d.out.symm,q+1,rfl⟩
    ·have M:Hid (a.drop k=b.drop k):=o.out g;subst g;clear i j o;go_wp2;go_region
     all_goals go_wp2
     go_region
     all_goals go_wp2
     go_roundw
     case rel=>exact⟨k,om,by go_num,M,q+1+1,rfl⟩
     case measure=>simp[intOf]
    ·have d:Hid (QL (val a) (val b)=1):=zaB (j.out g);have Y:(C:Int)<(B:Int):=om;clear i j o;go_wp2;go_region
     all_goals go_wp2
     go_region
     all_goals go_wp2
     go_ret;exact⟨QW d.out.symm,q+1+1,rfl⟩
 ·have d:Hid (QL (val a) (val b)=1):=zaB (zbl s y f);have R:(b.length:Int)<(a.length:Int):=om;go_enter func186,ntmps186
  go_wp2;go_ret;exact⟨QW d.out.symm,0,rfl⟩
theorem Tryz.infoInt:(Tryz.prog.info? 3).map (fun i=>(i.zero,i.size,i.bytes))=E (E (it .i64 0),1,8):=kr
theorem zmZ (C:Nat):Int.tmod (C:Int) 10000=((C%10000:Nat):Int):=by rw[Int.tmod_eq_emod_of_nonneg om];rfl
theorem zm0 (C:Nat):Int.tdiv (C:Int) 10000=((C/10000:Nat):Int):=by rw[Int.tdiv_eq_ediv_of_nonneg om];rfl
theorem zhW (P C:Nat):P*10000*(C/10000)+P*(C%10000)=P*C:=by
 rw[ZD,<-qI,zaG]
theorem zbY (x:Nat):val [x]=x:=by simp[val]
theorem zen {os ds a:List Nat}{k c C:Nat}(d:os.length=k)(e:val os+10000^k*c=val (ds.take k)+val (a.take k))(b:C=c+ds.getD k 0+a.getD k 0):
 val (os ++ [C%10000])+10000^(k+1)*(C/10000)=val (ds.take (k+1))+val (a.take (k+1)):=by
 have a:=zhW (10000^k) C;rw[val_append,d,zbY,val_take_any,val_take_any,ZK];rw[b,qI,qI]at a;rw[<-b]at a;omega
theorem zgW {os ds:List Nat}{k c C n:Nat}(d:os.length=k)(a:val os+10000^k*c=val (ds.take k)*n)(b:C=c+ds.getD k 0*n):
 val (os ++ [C%10000])+10000^(k+1)*(C/10000)=val (ds.take (k+1))*n:=by
 have a:=zhW (10000^k) C;rw[val_append,d,zbY,val_take_any,ZK,ZO,ZD (10000^k) (ds.getD k 0) n];rw[b,qI]at a;rw[<-b]at a;omega
theorem zlM {os ds a:List Nat}{k c c' d:Nat}(f:os.length=k)(b:val os+val (a.take k)=val (ds.take k)+10000^k*c)(e:d+a.getD k 0+c=ds.getD k 0+10000*c'):
 val (os ++ [d])+val (a.take (k+1))=val (ds.take (k+1))+10000^(k+1)*c':=by
 have b:10000^k*(d+a.getD k 0+c)=10000^k*(ds.getD k 0+10000*c'):=by rw[e]
 rw[val_append,f,zbY,val_take_any,val_take_any,ZK];rw[qI,qI,qI,<-ZD]at b;omega
theorem zak {os:List Nat}{x:Nat}(h:Dig os)(a:x<10000):Dig (os ++ [x]):=h.append (fun d a=>by simp at a;omega)
theorem top_of_ge {ds:List Nat}(c:Dig ds)(h:∀k,ds.length=k+1->10000^k<=val ds):Top ds:=by
 intro k b a;have d:=h k b;have b:=val_take_any ds k;rw[zy om,a,Z7,qy]at b;have a:=val_lt (c.take k);rw[zU,ZL om]at a;omega
theorem zcm {ds:List Nat}{k:Nat}(h:ds.length<=k):ds.take k=ds:=zy h
theorem JC {w:H}{base:Nat}{b:Option Addr}{c:Nat}{os:List Nat}(h:w.ownsRow base 3 1 (V b os.length c) os.length (os.map encD)):Sl w (V b os.length c) os:=by
 by_cases a:V b os.length c=V O 0 0
 ·left
  refine⟨a,?_⟩;simp only[zV]at a;exact QM.1 a.2.1
 ·have f:∀g,b=E ⟨g,0,O⟩->QE w g:=by
   intro g d;obtain⟨_,c|⟨_,_,_,b,_,e,_⟩⟩:=h;·exact absurd c.1 a
   ·simp only[zV]at b;rw[d]at b;simp only[z7,je,zcn]at b;rw[b.1];exact⟨_,_,e⟩
  obtain⟨b,_,c,e,_,d,g,_⟩:=owns_parts h a;simp only[zV]at c;obtain⟨rfl,_,rfl⟩:=c;exact Or.inr ⟨b,0,_,rfl,e,d,g,f b rfl⟩
theorem ziR (w:H):Sl w (V O 0 0) []:=Or.inl ⟨rfl,rfl⟩
theorem Jf {w wr d:H}{h:Option Addr}{i:Nat}{os:List Nat}{z:Int}{x:Nat}{g:Value}{o:Obj}(l:wr.ownsRow w.heap.size 3 1 (V h os.length i) os.length (os.map encD))(e:Below w.heap.size w wr)
 (f:d.ownsRow w.heap.size 3 1 g (os.length+1) (os.map encD ++ [it .i64 z])) (j:(wr.alloc o).grownBy d (V h os.length i).ownBlock) (k:g≠V O 0 0) (m:z=(x:Int)):
 ∃a,a=os ++ [x]/\a.length=os.length+1/\∃b c,g=V (E ⟨c,0,O⟩) a.length b/\d.ownsRow w.heap.size 3 1 (V (E ⟨c,0,O⟩) a.length b) a.length (a.map encD)/\Below w.heap.size w d:=by
 subst m;have a:os.map encD ++ [it .i64 (x:Int)]=(os ++ [x]).map encD:=by simp[encD]
 rw[a]at f;obtain⟨c,b,a,_,_,_,_,_⟩:=owns_parts f k;subst a;refine⟨_,rfl,sp,b,c,sp,?_,?_⟩;·rw[show(os ++ [x]).length=os.length+1 by simp];exact f
 ·exact(e.alloc e.size _).grown j (by have:=e.size;simp;omega) (fun k h=>(l.lt k h).1)
theorem times_any (w:H)(v:Value)(m n K:Nat)(d:NV w v m)(c:n<10000)(a:m<10000^K)(b:K<=1000000000):
 Calls pg 294 #[v,it .i64 (n:Nat)] w fun e w'=>∃x,e= .returned x/\NV w' x (m*n)/\Below w.heap.size w w':=by
 obtain⟨b,k,h,c,rfl⟩:=d;have d:=zaC c a;obtain⟨_,_,rfl,_⟩:=k.shape;obtain⟨T,J,M,N,R⟩:=qL Tryz.infoInt;clear a;go_enter func294,ntmps294
 go_wp2;go_loopw [5,6,7] (fun i f d wr=>∃(c:Nat) (a:List Nat) (g:Option Addr) (l:Nat),i=V g a.length l/\f=it .i64 (c:Nat)/\d=it .i64 (a.length:Nat)/\c<10000/\a.length<=b.length+1/\(b.length<a.length->c=0)/\
  wr.ownsRow w.heap.size 3 1 (V g a.length l) a.length (a.map encD)/\Dig a/\Hid (val a+10000^a.length*c=val (b.take a.length)*n)/\Below w.heap.size w wr) (fun _ _ d _=>((b.length:Int)+2-intOf d).toNat)
 case atStart=>exact⟨0,[],O,0,rfl,rfl,rfl,om,sp,fun _=>rfl,Ze _ _ _ _,fun d h=>by simp at h,by simp[Hid,val],zR _ _⟩
 case round=>
  obtain⟨c,a,g,l,rfl,rfl,rfl,_,_,L,j,A,f,d⟩:=hrel;by_cases i:a.length<b.length
  ·obtain⟨o,s,rfl,q,r⟩:=k.row (by intro e;rw[e]at i;simp at i);have k:=(d.cell (p:=⟨o,s+a.length,O⟩) q).trans (r a.length i);have i:=h.get a.length;obtain⟨C,hC⟩:∃C,C=c+b.getD a.length 0*n:=⟨_,rfl⟩;have r:=zi (zgW rfl f.out hC);generalize b.getD a.length 0=x at *;have t:x*n<=9999*9999:=Z0 om om;have h:(0:Int)<=(x:Int)*(n:Int):=by rw[<-JW];omega
   have h:(x:Int)*(n:Int)<=99980001:=by rw[<-JW];omega
   have h:(c:Int)+(x:Int)*(n:Int)=(C:Int):=by rw[hC];simp
   have i:C<100000000:=om;have i:=zi h;have i:=zmZ C;have k:=zm0 C;have I:C/10000<10000:=om;have W:C%10000<10000:=om;have o:=zi i;have o:=zi k;have s:((c:Int)+(x:Int)*(n:Int))%10000=((C%10000:Nat):Int):=by rw[h];rfl
   have q:=zi s;have o:Hid (((c:Int)+(x:Int)*(n:Int))/10000=((C/10000:Nat):Int)):=by rw[Hid,h];rfl
   clear t hC h f i k s;go_wp2_with (at_builtin;refine qQ _ rfl _ _ 35 rfl w.heap.size 3 T (it .i64 0) 1 8 underlying35 J M N R rfl dc (V g a.length l) a.length (a.map encD) rfl (j.alloc _) ⟨wr.heap.size,0,O⟩ 1 1 [it .i64 (((c:Int)+(x:Int)*(n:Int))%10000)] rfl rfl ?c1 ?c2 mo om (by have:=d.size;simp;omega) ?_)
   case c1=>exact Z4 _ _ _
   case c2=>intro Y k;simp at k;subst k;rfl
   intro Z U B y z;obtain⟨F,i,h,s,X,rfl,D,u⟩:=Jf j d B y z q.out;go_wp2;go_roundw
   case rel=>
    refine⟨C/10000,F,_,s,rfl,by rw[o.out],by rw[h];simp,I,om,by intro t;omega,D,by rw[i];exact zak A W,?_,u⟩;rw[Hid,h,i];exact r.out
   case measure=>simp[intOf];omega
  ·by_cases C:c=0
   ·subst C;have I:val a=val b*n:=by
     have:=f.out;rw[zcm om,Z7,qy]at this;exact this
    have W:=zi I;clear I f;go_wp2_with fail
    refine(trim_any _ _ a (JC j) om).mono ?_;rintro e U ⟨⟨x,rfl,I⟩,rfl⟩;go_wp2;go_ret;exact⟨x,rfl,zd2 I A W.out,d⟩
   ·have I:a.length<=b.length:=by
     by_cases t:b.length<a.length
     ·exact absurd (L t) C
     ·omega
    have b:=zgW (n:=n) (C:=c) rfl f.out (by rw[za9 _ _ om];omega);have C:(0:Int)<(c:Int):=om;have q:Hid ((c:Int)%10000=((c%10000:Nat):Int)):=by rw[Hid];rfl
    have o:Hid ((c:Int)/10000=((c/10000:Nat):Int)):=by rw[Hid];rfl
    have r:=zi b;clear b f L;go_wp2_with (at_builtin;refine qQ _ rfl _ _ 35 rfl w.heap.size 3 T (it .i64 0) 1 8 underlying35 J M N R rfl dc (V g a.length l) a.length (a.map encD) rfl (j.alloc _) ⟨wr.heap.size,0,O⟩ 1 1 [it .i64 ((c:Int)%10000)] rfl rfl ?c1 ?c2 mo om (by have:=d.size;simp;omega) ?_)
    case c1=>exact Z4 _ _ _
    case c2=>intro Y k;simp at k;subst k;rfl
    intro Z U B y z;obtain⟨F,i,h,s,X,rfl,D,u⟩:=Jf j d B y z q.out;go_wp2;go_roundw
    case rel=>
     refine⟨c/10000,F,_,s,rfl,by rw[o.out],by rw[h];simp,om,om,by intro t;omega,D,by rw[i];exact zak A om,?_,u⟩;rw[Hid,h,i];exact r.out
    case measure=>simp[intOf];omega
end Go.Proofs.YtnhfdcfnojnofaaGreatDoor.T
namespace Go.Proofs.YtnhfdcfnojnofaaGreatDoor
open Go.RowKit
def zeZ (high lead U3 V2 g:Nat):Prop:=∀Q,Q<=high/lead->(∀k,U3<k*V2->Q<k)->Q<4294967296->Q<=g
theorem zkH {high lead a b g:Nat}(h:zeZ high lead a b g)(c:4294967296<=g):zeZ high lead a b (g-1):=fun Q a a a=>om
theorem ziS (g lead l a Z b:Nat):(g*lead+l)*a+Z+g*b=g*(lead*a+b)+(l*a+Z):=by
 rw[qI,<-ZD,ZO];generalize g*lead*a=c;generalize l*a=c;generalize g*b=d;omega
theorem zkI {high lead Z c a b g l:Nat}(h:zeZ high lead a b g)(d:a=high*4294967296+Z)(e:b=lead*4294967296+c)(f:g*lead+l=high)(i:l*4294967296+Z<g*c):zeZ high lead a b (g-1):=by
 intro Q a a b;have b:=ziS g lead l 4294967296 Z c;rw[f,<-d,<-e]at b;have:=a g om;omega
theorem zhX {high lead Z a b c g l:Nat}(d:b=high*4294967296+Z)(e:c=lead*4294967296+a)(f:g*lead+l=high)(h:g*a<=l*4294967296+Z):g*c<=b:=by
 have b:=ziS g lead l 4294967296 Z a;rw[f,<-d,<-e]at b;omega
theorem zkJ {high lead X Y a Z g l:Nat}(e:high=Y+4294967296*X)(b:X<=lead)(c:Y<4294967296)(hs:a<4294967296)(d:g*lead+l=high)(f:4294967296<=l):g<4294967296/\g*a<=l*4294967296+Z:=by
 have b:g*lead<4294967296*lead:=om;have c:=zbm b;refine⟨c,?_⟩;have b:g*a<=4294967296*4294967296:=Z0 om om;omega
theorem zlN {high lead:Nat}(b:high<18446744073709551616)(a:2147483648<=lead):high/lead<=8589934592:=by
 have b:high/lead<=high/2147483648:=Nat.div_le_div_left a om;omega
theorem zht (w:H)(b q cap b' v o t:Nat)(ds a:List Nat)(r:ds.length=t+3)(y:a.length=t+2)(x:t+3<=cap)(z:t+2<=o)(A:t<=1073741800)
 (k:Row w b q ds) (m:Row w b' v a) (i:Dig ds) (l:Dig a) (u:2147483648<=a.getD (t+1) 0) (s:ds.getD (t+2) 0<=a.getD (t+1) 0) (high lead h j:Nat)
 (p:high=ds.getD (t+1) 0+4294967296*ds.getD (t+2) 0) (f:lead=a.getD (t+1) 0) (c:h=high*4294967296+ds.getD t 0) (d:j=lead*4294967296+a.getD t 0):
 Calls pg 311 #[V (E ⟨b,q,O⟩) (t+3) cap,V (E ⟨b',v,O⟩) (t+2) o] w fun e w'=>∃g:Nat,e= .returned (it .u32 (g:Nat))/\g<4294967296/\zeZ high lead h j g/\g*j<=h/\∃n,w'=w.drewN n:=by
 have o:=k t om;have o:=k (t+1) om;have o:=k (t+2) om;have o:=m t om;have o:=m (t+1) om;have D:=i.get t;have x:=i.get (t+1);have z:=i.get (t+2);have v:=l.get t;have q:=l.get (t+1);rw[<-f]at o q u s;clear f k m i l r y;generalize ds.getD t 0=Z at *;generalize ds.getD (t+1) 0=Y at *;generalize ds.getD (t+2) 0=X at *;generalize a.getD t 0=i at *;have m:=zeI X Y z x;have a:high<18446744073709551616:=om;rw[<-p]at m;have q:((high:Nat):Int)/(lead:Int)=((high/lead:Nat):Int):=sp;have o:((high:Nat):Int)%(lead:Int)=((high%lead:Nat):Int):=sp;have A:=zlN a u;have a:high%lead<lead:=Qx _ om;have l:high/lead*lead+high%lead=high:=by have:=zaG high lead;rw[Qg]at this;exact this
 have k:zeZ high lead h j (high/lead):=fun Q a _ _=>a
 have z:=zi p;clear p;generalize u:high/lead=p at *;generalize y:high%lead=R at *;clear u y;have u:=zi l;clear l;have y:=zi k;clear k;go_enter func311,ntmps311
 go_wp2_with fail
 go_quiet (fail)
 go_wp2_with fail
 go_quiet (fail)
 go_wp2_with fail
 go_quiet (fail)
 go_wp2_with fail
 go_loopw [9,10] (fun gv k wr=>∃g l:Nat,g<=8589934592/\l<8589934592/\gv=it .u64 (g:Nat)/\k=it .u64 (l:Nat)/\Hid (g*lead+l=high)/\Hid (zeZ high lead h j g)/\∃n,wr=w.drewN n) (fun gv _ _=>(intOf gv).toNat)
 case atStart=>exact⟨p,R,A,om,rfl,by rw[o],u,y,_,(World.drewN_drewN _ _ _).trans (World.drewN_drewN _ _ _)⟩
 case round=>
  obtain⟨g,l,_,r,rfl,rfl,h,f,n,rfl⟩:=hrel;by_cases a:l<4294967296
  ·have B:(l:Int)<4294967296:=om;by_cases j:g<4294967296
   ·have C:¬(4294967296<=(g:Int)):=om;have k:=zeI l Z a D;obtain⟨y,hy⟩:∃y,Z+4294967296*l=y:=⟨_,rfl⟩;rw[hy]at k;obtain⟨_,_⟩:=ziO g i j v;have u:((g*i:Nat):Int)=(g:Int)*(i:Int):=sp;by_cases k:y<g*i
    ·have A:(y:Int)<(g:Int)*(i:Int):=om;have a:1<=g:=by
      rcases Qc g with a|a
      ·subst a;omega
      ·exact a
     have a:=zi (zkI f.out c d h.out om);have r:Hid ((g-1)*lead+(l+lead)=high):=by
      rw[Hid,<-h.out];obtain⟨p,rfl⟩:∃p,g=p+1:=⟨g-1,om⟩;rw[zbI,ZO];omega
     have D:=zi c;have D:=zi d;clear c d k u m q o hy;go_wp2_with fail
     go_roundw
     case rel=>exact⟨g-1,l+lead,om,om,by go_num,by go_num,r,a,n,rfl⟩
     case measure=>simp[intOf];omega
    ·have A:¬((y:Int)<(g:Int)*(i:Int)):=om;have a:=zi (zhX c d h.out om);clear c d k u m q o hy;go_wp2_with fail
     go_ret;exact⟨g,by go_num,j,f.out,a.out,n,rfl⟩
   ·have i:4294967296<=g:=om;have C:4294967296<=(g:Int):=om;have a:=zi (zkH f.out i);have r:Hid ((g-1)*lead+(l+lead)=high):=by
     rw[Hid,<-h.out];obtain⟨p,rfl⟩:∃p,g=p+1:=⟨g-1,om⟩;rw[zbI,ZO];omega
    clear c d m q o j;go_wp2_with fail
    go_roundw
    case rel=>exact⟨g-1,l+lead,om,om,by go_num,by go_num,r,a,n,rfl⟩
    case measure=>simp[intOf];omega
  ·obtain⟨j,k⟩:=zkJ (Z:=Z) z.out s x v h.out om;have a:=zi (zhX c d h.out k);clear c d m q o k;have B:¬((l:Int)<4294967296):=om;go_wp2_with fail
   go_ret;exact⟨g,by go_num,j,f.out,a.out,n,rfl⟩
end Go.Proofs.YtnhfdcfnojnofaaGreatDoor
