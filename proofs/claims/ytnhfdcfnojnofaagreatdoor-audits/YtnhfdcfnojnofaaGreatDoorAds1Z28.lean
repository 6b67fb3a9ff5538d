import Derived.Test.YtnhfdcfnojnofaaGreatDoorAds1Z23
import Derived.Test.YtnhfdcfnojnofaaGreatDoorAds1Z22
import Derived.Test.YtnhfdcfnojnofaaGreatDoorAds1Z26
open Option renaming none->O,some->E
open Go.Value renaming slice->V,bool->G,string->gS,pointer->pn,tuple->tp,int->it,agg->ag
open Go.Obj renaming cells->cl
open Go renaming World->H
open Go.Proofs.Tryz renaming prog->pg
open Go.Proofs.Tryz
set_option linter.unusedSimpArgs false
set_option linter.unusedVariables false
set_option maxHeartbeats 4000000
set_option maxRecDepth 100000
namespace Go.Proofs.YtnhfdcfnojnofaaGreatDoor.T
open Go.RowKit
theorem zhb {l:List UInt8}{k:Nat}(h:okD l k=true):∀c∈l,c≠47:=by
 intro c b e;subst e;unfold okD at h;simp only[ZQ,Qw]at h;have a:=h.2.2;unfold qZ at a;rw[qR]at a;have:=a 47 b;revert this
 decide
theorem zjq {l:List UInt8}{c:UInt8}(a:c∈l)(d:c≠45):c∈Lib.trimPrefix l [45]:=by
 unfold Lib.trimPrefix;split
 ·rename_i b
  cases l with
  |nil=>simp at a
  |cons x r=>
   have e:x=45:=by
    simp[Lib.hasPrefix,List.isPrefixOf]at b;first|exact b.symm|exact b
   rcases qw.1 a with h|h
   ·exact absurd (h.trans e) d
   ·simpa using h
 ·exact a
theorem zkv (l:List UInt8):wOk l=dOk l:=by
 unfold dOk;by_cases h:∀c∈l,c≠47
 ·unfold wOk;rw[(zhA h).2.2.2,qH h,ZE]
 ·have a:wOk l=false:=by unfold wOk;rw[ZB h,zag]
  rw[a];cases hd:okD (Lib.trimPrefix l [45]) 40 with
  |false=>rfl
  |true=>
   exfalso
   apply h;intro c a e;exact zhb hd c (zjq a (by rw[e];decide)) e
theorem zcu (a:List ByteArray)(i:Nat):(a.map fun l=>l.data.toList).getD i []=(a.getD i ⟨#[]⟩).data.toList:=by
 simp only[zk,zQ];cases a[i]?<;>rfl
theorem all_map (a:List ByteArray):(a.map fun l=>l.data.toList).all dOk=a.all fun l=>wOk l.data.toList:=by
 induction a with
 |nil=>rfl
 |cons x r a=>simp only[ZF,zci,a,zkv]
def RPr (W1 w:H)(gp:Nat)(p:qo):Prop:=∃vM vL vH vC,RQ W1 w gp p.n p.mx (p.rg.map Prod.fst) (p.rg.map Prod.snd) p.rows vM vL vH vC
theorem RPr.wr {a w:H}{b:Nat}{p:qo}(h:RPr a w b p):Wr (fun k=>k=b) a w:=by
 obtain⟨_,_,_,_,h⟩:=h;exact h.wr
theorem take_any (d w:H)(c i:Nat)(p:qo)(v:Value)(a:List ByteArray)(h:RPr d w c p)(u:Sv w v a)(K:∀k,v.ownBlock=E k->k≠c)(T:0<a.length)(hn:a.length<=100000)(t:∀l∈a,l.size<=1000000000)(a8:i<=100000)
 (a4:i=0->p=qo.none) (U:0<i->0<p.n/\p.n<=4) (a3:i<=1+p.n->p.rows= []) (a2:p.rows.length<=6) (a9:p.rg.length<=100):
 Calls pg 112 #[pn (E ⟨c,0,O⟩),it .i64 (i:Nat),v] w fun e w'=>Wr (fun k=>k=c) d w'/\
  ((Q2 i p (a.map fun l=>l.data.toList)=O/\e= .returned (G false))\/∃q,Q2 i p (a.map fun l=>l.data.toList)=E q/\e= .returned (G true)/\RPr d w' c q):=by
 obtain⟨n,m,j,g,h⟩:=h;by_cases I:i=0
 ·subst I;obtain rfl:=a4 rfl;refine(zl9 d w c v a n m j g h u om t).mono ?_;rintro e w' ⟨rfl,f⟩;refine⟨f.wr,?_⟩;by_cases F:zbC (a.map fun l=>l.data.toList)=0
  ·left
   refine⟨by simp[Q2,F],by rw[F];rfl⟩
  ·right
   refine⟨⟨zbC (a.map fun l=>l.data.toList),[],[],[]⟩,by simp[Q2,F],so,⟨n,m,j,g,f⟩⟩
 ·by_cases J:i=1
  ·subst J;have s:=U om;refine(znz d w c p.n v a _ _ _ _ n m j g h u K T om t s).mono ?_;rintro e w' ⟨rfl,x,f⟩;refine⟨x,?_⟩;have A:Q2 1 p (a.map fun l=>l.data.toList)=if a.length=p.n+1/\(a.getD 0 ⟨#[]⟩).data.toList=zbv/\(a.drop 1).all (fun l=>wOk l.data.toList)=true then E { p with mx:=(a.drop 1).map fun l=>wZ l.data.toList } else O:=by
    unfold Q2;rw[zW om,z8 rfl,zcu,zo,<-zdH,all_map,ZV];rfl
   rw[A];by_cases b:a.length=p.n+1/\(a.getD 0 ⟨#[]⟩).data.toList=zbv/\(a.drop 1).all (fun l=>wOk l.data.toList)=true
   ·right
    obtain⟨v',a1⟩:=f b.2.2;exact⟨_,z8 b,by rw[qH b],⟨v',m,j,g,a1⟩⟩
   ·left
    exact⟨zW b,by rw[ZB b]⟩
  ·have s:=U om;by_cases z:i<=1+p.n
   ·have W:=a3 z;have A:Q2 i p (a.map fun l=>l.data.toList)=if a.length=3/\(a.getD 0 ⟨#[]⟩).data.toList=za4/\(a.drop 1).all (fun l=>wOk l.data.toList)=true then E { p with rg:=p.rg ++ [(wZ (a.getD 1 ⟨#[]⟩).data.toList,wZ (a.getD 2 ⟨#[]⟩).data.toList)] } else O:=by
     unfold Q2;rw[zW I,zW J,z8 z,zcu,zcu,zcu,zo,<-zdH,all_map]
    rw[A];by_cases b:a.length=3/\(a.getD 0 ⟨#[]⟩).data.toList=za4/\(a.drop 1).all (fun l=>wOk l.data.toList)=true
    ·obtain⟨Q,R,S⟩:=b;obtain⟨y,o,r,rfl⟩:∃y o r,a= [y,o,r]:=by
      match a,Q with
      |[y,o,r],_=>exact⟨y,o,r,rfl⟩
     rw[W]at h;have P:wOk o.data.toList=true/\wOk r.data.toList=true:=by simpa using S
     refine(ziy d w c p.n i y o r v _ _ _ n m j g h u K ⟨t o sp,t r sp⟩ s om z (by rw[ZT];exact R) P.1 P.2 so so).mono ?_;rintro e w' ⟨rfl,a7,a6,f⟩;refine⟨f.wr,Or.inr ⟨_,z8 ⟨Q,R,S⟩,rfl,n,a7,a6,g,?_⟩⟩;simp only[ZN,ZF,jE];rw[W];exact f
    ·refine(zix d w c p.n i v a _ _ _ _ n m j g h u T om t s om z (by rw[ZT];exact b)).mono ?_;rintro e w' ⟨rfl,x⟩;exact⟨x,Or.inl ⟨zW b,rfl⟩⟩
   ·have A:Q2 i p (a.map fun l=>l.data.toList)=if p.rows.length<6/\a.length=p.n+3/\(a.getD 0 ⟨#[]⟩).data.toList=zcT/\((a.drop 1).take p.n).all (fun l=>wOk l.data.toList)=true/\jQ (a.getD (p.n+1) ⟨#[]⟩).data.toList=true/\wOk (a.getD (p.n+2) ⟨#[]⟩).data.toList=true then E { p with rows:=p.rows ++ [(((a.drop 1).take p.n).map fun l=>wZ l.data.toList,(a.getD (p.n+1) ⟨#[]⟩).data.toList,wZ (a.getD (p.n+2) ⟨#[]⟩).data.toList)] } else O:=by
     unfold Q2;rw[zW I,zW J,zW z,zcu,zcu,zcu,zo,<-zdH,<-zdI,all_map,ZV,zkv];rfl
    rw[A];by_cases a0:a.length<3
    ·refine(zjp d w c p.n i v a _ _ _ _ n m j g h u a0 s om om).mono ?_;rintro e w' ⟨rfl,x⟩;exact⟨x,Or.inl ⟨zW (fun e=>om),rfl⟩⟩
    ·obtain⟨k,hk⟩:∃k,a.length=k+3:=⟨a.length-3,om⟩;have X:∀B:ByteArray,jQ B.data.toList=true↔(B.toList= [60,61]\/B.toList= [62,61]\/B.toList= [61]):=by
      intro B;rw[ZT];simp[jQ]
     by_cases b:k=p.n/\(a.getD 0 ⟨#[]⟩).toList= [114,111,119]/\((a.drop 1).take k).all (fun l=>wOk l.data.toList)=true/\((a.getD (k+1) ⟨#[]⟩).toList= [60,61]\/(a.getD (k+1) ⟨#[]⟩).toList= [62,61]\/(a.getD (k+1) ⟨#[]⟩).toList= [61])/\wOk (a.getD (k+2) ⟨#[]⟩).data.toList=true
     ·obtain⟨rfl,D,L,M,N⟩:=b;refine(zjY d w c p.n i a _ _ _ v _ _ _ _ n m j g h u K hk t s om om rfl rfl rfl D L M N a2).mono ?_;rintro e w' ⟨rfl,a5,f⟩;refine⟨f.wr,?_⟩;have Y:(a.getD 0 ⟨#[]⟩).data.toList=zcT:=by rw[ZT]at D;exact D
      by_cases C:p.rows.length<6
      ·right
       exact⟨_,z8 ⟨C,hk,Y,L,(X _).2 M,N⟩,by rw[qH C],⟨n,m,j,a5,f⟩⟩
      ·left
       exact⟨zW (fun e=>C e.1),by rw[ZB C]⟩
     ·refine(zj1 d w c p.n k i a _ _ _ v _ _ _ _ n m j g h u hk om t s om om rfl rfl rfl b).mono ?_;rintro e w' ⟨rfl,x⟩;refine⟨x,Or.inl ⟨zW (fun e=>b ?_),rfl⟩⟩;obtain⟨_,_,Z,e4,e5,e6⟩:=e;obtain rfl:k=p.n:=om;exact⟨rfl,by rw[ZT];exact Z,e4,(X _).1 e5,e6⟩
theorem zhc (l:List UInt8):(if (part 10 l).2= []then(part 10 l).1 else(part 10 l).1 ++ [⟨(part 10 l).2.toArray⟩])=(qE l).map fun x=>(⟨x.1.toArray⟩:ByteArray):=by
 have h:=Zt (List.map Prod.fst) (zgX l);rw[ZV]at h;have e:(Prod.fst ∘ fun x:List UInt8×Bool=>((⟨x.1.toArray⟩:ByteArray),x.2))=fun x=>(⟨x.1.toArray⟩:ByteArray):=rfl
 rw[e]at h;rw[h];have a:((part 10 l).1.map fun x=>(x,true)).map Prod.fst=(part 10 l).1:=by
  rw[ZV];have:((Prod.fst:ByteArray×Bool->ByteArray) ∘ fun x=>(x,true))=id:=rfl;rw[this,List.map_id]
 rw[ZN,a];by_cases a:(part 10 l).2= []
 ·simp[a]
 ·simp[a]
theorem zia (l:List UInt8)(i:Nat)(x:List UInt8×Bool)(e:(qE l)[i]? =E x):x.2=!decide (i+1=(qE l).length/\(part 10 l).2≠ []):=by
 have h:=Zt (List.map Prod.snd) (zgX l);rw[ZV]at h;have a:(Prod.snd ∘ fun x:List UInt8×Bool=>((⟨x.1.toArray⟩:ByteArray),x.2))=fun x=>x.2:=rfl
 rw[a]at h;have a:=Zt (fun m=>m[i]?) h;simp only[zQ,e,Zz]at a;have d:=Zt List.length h;simp only[zo,ZN,zX]at d;by_cases b:(part 10 l).2= []
 ·simp only[b,jo,jE,Q1,ZV]at a;have c:i<(part 10 l).1.length:=by
   have:=(zn.1 e).1;simp[b]at d;omega
  rw[zQ,zj c]at a;simp at a;simp[b,a]
 ·simp only[b,Jg,ZN,ZF,jE,ZV]at a;simp[b]at d;by_cases c:i<(part 10 l).1.length
  ·rw[zM (by simpa using c),zQ,zj c]at a;simp at a;rw[a];simp;omega
  ·have c:i=(part 10 l).1.length:=by
    have:=(zn.1 e).1;omega
   rw[zJ so]at a;simp[c]at a;rw[a];simp[b];omega
theorem words_list (l:List UInt8):((part 32 l).1 ++ [(⟨(part 32 l).2.toArray⟩:ByteArray)]).map (fun b:ByteArray=>b.data.toList)=qg l:=by
 rw[<-zkL,ZV];have e:((fun b:ByteArray=>b.data.toList) ∘ fun x:List UInt8=>(⟨x.toArray⟩:ByteArray))=id:=by funext x;simp
 rw[e,List.map_id]
theorem zib (l:List UInt8):0<(qg l).length:=by
 unfold qg Jh;simp
theorem RQ.start (w a:H)(c:Below (w.heap.size+1) (w.alloc (cl #[it .i64 0,V O 0 0,V O 0 0,V O 0 0,V O 0 0] 203)) a):
 RQ a a w.heap.size 0 [] [] [] [] (V O 0 0) (V O 0 0) (V O 0 0) (V O 0 0):=by
 have b:=(c.block w.heap.size om).trans (qq w _);have c:=(zf.1 b).1;have nil:∀g,Value.ownBlock (V O 0 0)=E g->False:=fun g e=>by cases e
 refine⟨c,?_,Wr.refl _ _,?_,⟨[],rfl,fun i t z h=>by simp at h,Or.inl ⟨rfl,rfl⟩⟩,fun g e=>(nil g e).elim,⟨[],rfl,Ze _ _ _ _,fun i t z h=>by simp at h⟩,⟨[],rfl,Ze _ _ _ _,fun i t z h=>by simp at h⟩,⟨[],rfl,Ze _ _ _ _,fun i t z h=>by simp at h⟩,fun g e=>(nil g e).elim,fun g e=>(nil g e).elim,fun g e=>(nil g e).elim⟩
 ·rintro⟨_,_,a⟩;rw[b]at a;simp at a
 ·refine⟨?_,?_,?_,?_,?_,?_,?_,?_,?_,?_⟩<;>simp[World.cell?,World.frozen?,b]
theorem zk4 (s:ByteArray)(w:H)(hs:2000<s.size):
 Calls pg 66 #[gS s] w fun e w'=>e= .returned (tp #[pn O,it .i64 4,it .i64 0])/\w'=w:=by
 have a:(2000:Int)<(s.size:Int):=om;go_enter func66,ntmps66
 go_wp2;go_ret3
 exact⟨rfl,rfl⟩
theorem RPr.below {a w w':H}{b:Nat}{p:qo}(h:RPr a w b p)(c:Below w.heap.size w w'):RPr a w' b p:=by
 obtain⟨e,d,b,a,h⟩:=h;exact⟨e,d,b,a,h.below c⟩
theorem ze8 {w c w':H}(a:Below w.heap.size w c)(b:Wr (fun k=>k=w.heap.size) c w'):Below w.heap.size w w':=
 ⟨b.os.trans a.os,b.tape.trans a.tape,b.output.trans a.output,zL a.size b.size,fun k c=>(b.block k (zv c a.size) om).trans (a.block k c)⟩
theorem znI {a:List (List UInt8×Bool)}{i:Nat}{p:qo}{y:List UInt8×Bool}(c:a[i]? =E y):jd i p (a.drop i)=if y.2=false then .error (i+1)else match Q2 i p (qg y.1)with|none=> .error (i+1)|some q=>jd (i+1) q (a.drop (i+1)):=by
 obtain⟨b,a⟩:=zn.1 c;rw[Zn b,a,jd];rfl
def ReadSo (W1 wr:H)(gp:Nat)(LL:List (List UInt8×Bool))(i:Nat)(p:qo):Prop:=
 RPr W1 wr gp p/\ji i p/\jd 0 qo.none LL=jd i p (LL.drop i)
theorem zom {rg:List (Int×Int)}{k:Nat}(a:k<rg.length):jz k (rg.drop k)=if 7<(rg.getD k (0,0)).2-(rg.getD k (0,0)).1 then E k else jz (k+1) (rg.drop (k+1)):=by
 rw[Zn a,jz,zk,zj a];rfl
theorem Qj.at_map {w:H}{v:Value}{zs:List Int}(h:Qj w v (zs.map fun z=>(z,1)))(j n:Nat)(z:Int)(p:zs.length=n)(e:zs[j]? =E z):
 ∃(g a cap:Nat) (t:Tri),v=V (E ⟨g,a,O⟩) n cap/\g<w.heap.size/\w.cell? ⟨g,a+j*3,O⟩=E (G t.b)/\w.cell? ⟨g,a+j*3+1,O⟩=E t.up/\w.cell? ⟨g,a+j*3+2,O⟩=E t.down/\qe w t.val z 1:=by
 obtain⟨c,b,f,i⟩:=h;rw[zo]at b;have d:=(zn.1 e).1;have d:c[j]? =E c[j]:=zj om;have o:=f j _ (z,1) d (by rw[zQ,e];rfl);rcases i with ⟨_,rfl⟩|⟨g,a,cap,k,_,l,m⟩
 ·simp at b;omega
 ·obtain⟨e,f,i⟩:=m j _ d;exact⟨g,a,cap,c[j],by rw[k,b,p],l,e,f,i,o⟩
theorem zmi (s:ByteArray)(w:H)(hs:s.size<=2000):
 Calls pg 66 #[gS s] w fun e w'=>Below w.heap.size w w'/\((∃a b:Nat,jj s.data.toList= .error (a,b)/\e= .returned (tp #[pn O,it .i64 (a:Nat),it .i64 (b:Nat)]))\/
  ∃p l,jj s.data.toList= .ok p/\e= .returned (tp #[pn (E ⟨w.heap.size,0,O⟩),it .i64 0,it .i64 0])/\RPr l w' w.heap.size p/\ji (qE s.data.toList).length p):=by
 have bt:¬(2000:Int)<(s.size:Int):=om;have HL:=zi (fun W=>zh4 s W om);rw[zhc]at HL;obtain⟨L,hen⟩:∃L,decide ((part 10 s.data.toList).2= [])=L:=⟨_,rfl⟩;rw[hen]at HL;have b1:=qN s;have T:Hid (jj s.data.toList=match jd 0 qo.none (qE s.data.toList)with
  |.error Z=> .error (5,Z)
  |.ok p=>if (qE s.data.toList).length<2+p.n then .error (5,(qE s.data.toList).length+1)else match jz 0 p.rg with
   |some i=> .error (6,i+3)
   |.none=> .ok p):=by
  rw[Hid];unfold jj;rw[zW om];rfl
 have HE:Hid (∀(i:Nat) (x:List UInt8×Bool),(qE s.data.toList)[i]? =E x->x.2=!decide (i+1=(qE s.data.toList).length/\L=false)):=by
  intro i x P;rw[zia _ i x P,<-hen];simp
 have HB:Hid ((qE s.data.toList).length<=2000/\∀x∈qE s.data.toList,x.1.length<=2000):=by
  have a1:=zbd s.data.toList.length s.data.toList;exact⟨zL a1.1 om,fun x P=>zL (a1.2 x P) om⟩
 obtain⟨c,hLL⟩:∃c,qE s.data.toList=c:=⟨_,rfl⟩;rw[hLL]at HL T HE HB⊢;clear hLL hen b1;have bn:=HB.out.1;go_enter func66,ntmps66
 go_wp2_with fail
 refine(HL.out _).mono ?_;rintro e l ⟨x,rfl,P,b6,a9⟩;obtain⟨_,xc,rfl⟩:=P.shape;rw[zo]at P⊢;have b2:RPr l l w.heap.size qo.none:=⟨_,_,_,_,RQ.start w l (by simpa using a9)⟩;have aa:=((zR _ w).alloc (zh _) _).trans (a9.mono sp);have bq:w.heap.size<l.heap.size:=by have:=a9.size;simp at this;omega
 clear a9;go_wp2_with fail
 go_loopw [8] (fun Q wr=>∃(i:Nat) (p:qo),Q=it .i64 (i:Nat)/\i<=c.length/\Hid (ReadSo l wr w.heap.size c i p)) (fun Q _=>c.length-(intOf Q).toNat)
 case atStart=>exact⟨0,qo.none,rfl,qp _,b2,ji.start,sp⟩
 case round=>
  obtain⟨i,p,rfl,m,D⟩:=hrel;by_cases af:i<c.length
  ·have ba:c.map (fun x=>(⟨x.1.toArray⟩:ByteArray))≠ []:=by intro e;rw[ZU]at e;rw[e]at af;simp at af
   obtain⟨a6,aR,rfl,_,bc⟩:=P.row ba;have b7:a6≠w.heap.size:=by have:=b6 a6 rfl;simp at this;omega
   obtain⟨y,hy⟩:∃y,c[i]? =E y:=⟨_,zj af⟩;have bo:wr.cell? ⟨a6,aR+i,O⟩=E (gS ⟨y.1.toArray⟩):=by
    have U:=bc i (by simpa using af);rw[zk,zQ,hy]at U;exact D.out.1.wr.cell (p:=⟨a6,aR+i,O⟩) b7 U
   have bv:=HB.out.2 y (qJ hy);have an:=zi (fun W=>zh3 ⟨y.1.toArray⟩ W (by simp[ByteArray.size];omega));have bj:(⟨y.1.toArray⟩:ByteArray).data.toList=y.1:=sp;rw[bj]at an;obtain⟨R,hls⟩:∃R,(part 32 y.1).1 ++ [(⟨(part 32 y.1).2.toArray⟩:ByteArray)]=R:=⟨_,rfl⟩;have ah:R.map (fun a4=>a4.data.toList)=qg y.1:=by rw[<-hls];exact words_list y.1
   rw[hls]at an;have b9:R.length=(qg y.1).length:=by rw[<-ah,zo]
   have bf:=zib y.1;have av:=zcJ (y.1.length+1) y.1;have aK:∀a4∈R,a4.size<=1000000000:=by
    intro a4 hl;have U:a4.data.toList∈qg y.1:=by rw[<-ah];exact zdb hl
    have h2:=av.2 _ U;rw[qN]at h2;omega
   have bi:(qg y.1).length<=y.1.length+1:=av.1;have f:=D.out.2.1;have aj:Hid (jd 0 qo.none c=if y.2=false then .error (i+1)else match Q2 i p (qg y.1)with|none=> .error (i+1)|some a5=>jd (i+1) a5 (c.drop (i+1))):=by rw[Hid,D.out.2.2];exact znI hy
   have aH:=zi (HE.out i y hy);have aG:=zi (fun(W:H) (az:Value) (U:RPr l W w.heap.size p) (h2:Sv W az R) (h3:∀Z,az.ownBlock=E Z->Z≠w.heap.size)=>take_any l W w.heap.size i p az R U h2 h3 om om aK om f.z f.n (fun a1=>f.r om) f.l (by have:=f.g;have:=f.n;omega));rw[ah]at aG;have aT:=zi f;have bu:=D.out.1.wr.size;clear hls ah av aK b9 bf bi f;go_wp2_with fail
   refine(an.out wr).mono ?_;rintro e w2 ⟨_,rfl,hv,be,b3⟩;obtain⟨_,_,rfl⟩:=hv.shape;go_wp2_with fail
   refine(aG.out w2 _ (D.out.1.below b3) hv (fun Z hk=>by have:=be Z hk;omega)).mono ?_;rintro e w3 ⟨bg,b5⟩;have a2:=ze8 aa bg;rcases b5 with ⟨ht,rfl⟩|⟨a5,ht,rfl,hq⟩
   ·have HT:=zi ht;clear ht;go_wp2;go_ret3
    refine⟨a2,Or.inl ⟨5,i+1,?_,sp⟩⟩;rw[T.out,aj.out,HT.out];by_cases aP:y.2=false
    ·simp[aP]
    ·simp[aP]
   ·have HT:=zi ht;clear ht;by_cases Y:y.2=false
    ·obtain⟨ar,rfl⟩:i+1=c.length/\L=false:=by
      have:=aH.out;rw[Y]at this;simpa using this.symm
     have b8:(i:Int)=(c.length:Int)-1:=om;clear ar;have ap:=zi Y;clear Y;go_wp2;go_ret3
     refine⟨a2,Or.inl ⟨5,i+1,?_,so⟩⟩;rw[T.out,aj.out,z8 ap.out]
    ·have ap:=zi Y;have bb:¬(i+1=c.length/\L=false):=by
      intro e;apply Y;rw[aH.out,qH e];rfl
     clear Y;have HQ:Hid (ReadSo l w3 w.heap.size c (i+1) a5):=⟨hq,aT.out.step HT.out,by rw[aj.out,zW ap.out,HT.out]⟩;clear hq;by_cases ar:i+1=c.length
     ·obtain rfl:L=true:=by
       cases L;·exact absurd ⟨ar,rfl⟩ bb
       ·rfl
      go_wp2;go_roundw
      case rel=>exact⟨i+1,a5,by go_num,om,HQ⟩
      case measure=>simp[intOf];omega
     ·have b8:¬(i:Int)=(c.length:Int)-1:=om;go_wp2;go_roundw
      case rel=>exact⟨i+1,a5,by go_num,om,HQ⟩
      case measure=>simp[intOf];omega
  ·obtain rfl:i=c.length:=om;have ak:Hid (jd 0 qo.none c= .ok p):=by rw[Hid,D.out.2.2,List.drop_length];rfl
   have f:=D.out.2.1;obtain⟨vM,vL,vH,vC,hQ⟩:=D.out.1;obtain⟨k0,k1,k2,k3,k4,e0,e1,e2,e3,e4⟩:=hQ.box;have a2:=ze8 aa hQ.wr;have bs:p.n<=4:=by
    by_cases hz:c.length=0
    ·rw[f.z hz];simp[qo.none]
    ·exact(f.n om).2
   by_cases ad:c.length<2+p.n
   ·have a3:(c.length:Int)<2+(p.n:Int):=om;have a0:Hid (jj s.data.toList= .error (5,c.length+1)):=by
     rw[Hid,T.out,ak.out];simp only[ad,jo]
    by_cases hz:c.length=0
    ·rw[hz]at a0;have ay:(c.length:Int)=0:=om;clear a3 ad;go_wp2;go_ret3
     exact⟨a2,Or.inl ⟨5,0+1,a0.out,by first|rfl|(simp;done)|(simp;omega)⟩⟩
    ·have ay:¬(c.length:Int)=0:=om;have bw:((c.length:Int) == 0)=false:=by simpa using ay
     have bp:decide ((c.length:Int)<2+(p.n:Int))=true:=by simpa using a3
     go_wp2;all_goals first|(exfalso;omega)|(go_ret3;exact⟨a2,Or.inl ⟨5,c.length+1,a0.out,by first|rfl|(simp;done)|(simp;omega)⟩⟩)|skip
   ·have a3:¬(c.length:Int)<2+(p.n:Int):=om;have ay:¬(c.length:Int)=0:=om;have b0:¬c= []:=by intro e;rw[e]at a3;simp at a3;omega
    go_wp2;all_goals first|(exfalso;exact b0 am)|skip
    go_loopw [10] (fun Q wr=>∃(j:Nat),Q=it .i64 (j:Nat)/\j<=p.n/\Hid (jz 0 p.rg=jz j (p.rg.drop j))/\Hid (RQ l wr w.heap.size p.n p.mx (p.rg.map Prod.fst) (p.rg.map Prod.snd) p.rows vM vL vH vC)) (fun Q _=>p.n-(intOf Q).toNat)
    case atStart=>exact⟨0,rfl,qp _,by rw[Hid,Zd],hQ⟩
    case round=>
     obtain⟨j,rfl,_,ao,K⟩:=hrel;obtain⟨k0,k1,k2,k3,k4,e0,e1,e2,e3,e4⟩:=K.out.box;by_cases br:j<p.n
     ·have aM:p.rg.length=p.n:=by have:=f.g;omega
      have ae:j<p.rg.length:=om;have aL:p.rg.getD j (0,0)∈p.rg:=by rw[zk,zj ae];exact zZ _
      obtain⟨aw,ax⟩:=f.bg _ aL;have al:=zi (zom ae);obtain⟨gL,oL,cL,tL,aO,_,l0,l1,l2,a8⟩:=K.out.lo.nums.at_map j p.rg.length (p.rg.getD j (0,0)).1 sp (by rw[zQ,zk,zj ae];rfl);obtain⟨gH,oH,cH,tH,aN,_,m0,m1,m2,a7⟩:=K.out.hi.nums.at_map j p.rg.length (p.rg.getD j (0,0)).2 sp (by rw[zQ,zk,zj ae];rfl);rw[aM]at aO aN;obtain⟨h,hlo⟩:∃h,(p.rg.getD j (0,0)).1=h:=⟨_,rfl⟩;obtain⟨m,hhi⟩:∃m,(p.rg.getD j (0,0)).2=m:=⟨_,rfl⟩;rw[hlo]at aw a8;rw[hhi]at ax a7;rw[hlo,hhi]at al;rw[aO]at k2;rw[aN]at k3;obtain⟨Lb,⟨La,Ll,Lk⟩,⟨Ma,Ml,Mk⟩⟩:=tL;obtain⟨Hb,⟨Ha,Hl,Hk⟩,⟨Ia,Il,Ik⟩⟩:=tH;simp only[Tri.up,Tri.down,Tri.val]at l1 l2 m1 m2 a8 a7;have t1:h.natAbs<10000^11:=Qm aw dc;have t2:m.natAbs<10000^11:=Qm ax dc;have t3:(-h).natAbs<10000^11:=by rw[QX];exact t1
      have t4:(m-h).natAbs<10000^12:=by
       have bm:(10:Nat)^40+10^40<10000^12:=dc;omega
      have aB:=zi (fun W (d:Ext wr W)=>a8.below d);have aA:=zi (fun W (d:Ext wr W)=>a7.below d);have J:=zi (fun W (d:Ext wr W)=>And.intro (d.cell k2) (And.intro (d.cell k3) (And.intro (d.cell l0) (And.intro (d.cell l1) (And.intro (d.cell l2) (And.intro (d.cell m0) (And.intro (d.cell m1) (d.cell m2))))))));have aD:=zi (fun W (d:Ext wr W)=>K.out.below d);clear a8 a7 aL aw ax hlo hhi k1 k4 e0 e1 e2 e3 e4;go_wp2;go_cut [11] (fun sv wc=>∃(C:Nat) (t:Bool) (q:Option Addr) (A v:Nat) (r:Option Addr) (B z:Nat),sv=pn (E ⟨C,0,O⟩)/\qk wc C (G t) (V q A v) (V r B z)/\qe wc (ag #[G t,V q A v,V r B z]) (m-h) 1/\Ext wr wc)
      case first=>
       have S:=Ext.refl wr;have aY:qk (wr.alloc (cl #[G false,V O 0 0,V O 0 0] 118)) wr.heap.size (G false) (V O 0 0) (V O 0 0):=qk.new _ _ _ _ _;obtain⟨_,_,_,_,_,_,_,_⟩:=J.out wr S;go_region_held3 (fun w'=>w'.cell? ⟨w.heap.size,2,O⟩=E (V (E ⟨gL,oL,O⟩) p.n cL)/\w'.cell? ⟨w.heap.size,3,O⟩=E (V (E ⟨gH,oH,O⟩) p.n cH)/\w'.cell? ⟨gL,oL+j*3,O⟩=E (G Lb)/\w'.cell? ⟨gL,oL+j*3+1,O⟩=E (V La Ll Lk)/\w'.cell? ⟨gL,oL+j*3+2,O⟩=E (V Ma Ml Mk)/\w'.cell? ⟨gH,oH+j*3,O⟩=E (G Hb)/\w'.cell? ⟨gH,oH+j*3+1,O⟩=E (V Ha Hl Hk)/\w'.cell? ⟨gH,oH+j*3+2,O⟩=E (V Ia Il Ik)) (first|(exact J.out _ (by with_reducible first|assumption|exact Ext.alloc am _|exact Ext.drew am))|(exact J.out _ (k.set3 g.size _ _ _))|(exact J.out _ (k.set3 (zh _) _ _ _))|go_keep)
        (first|(go_at_call 103;have _g:=N;refine(zeQ 11 om _ _ _ m (-h) 1 1 (aA.out _ (by first|exact g|exact g.alloc _)) (by first|exact N|exact N.alloc _) t2 t3 dc dc).mono ?_;rintro e o ⟨_,rfl,aJ,F⟩;have k:=(by first|exact g.trans F|exact(g.alloc _).trans F);obtain⟨o0,o1,o2,_,_,_,_,_⟩:=J.out o k;obtain⟨t,q,A,v,r,B,z,rfl,_,_,_,_⟩:=aJ.parts;(first|(have M:=(by exact aI.below F);have aq:=M;obtain⟨n0,aQ,n2,bk,bl,n5,n6⟩:=aq)|(have M:=(by exact(qk.new n _ _ _ _).below F);have aq:=M;obtain⟨n0,aQ,n2,bk,bl,n5,n6⟩:=aq)|skip))|(go_at_call 104;refine(zdU _ _ h 1 (aB.out _ (by first|exact S.drew|exact(S.alloc _).drew|exact S.drew.alloc _)) 11 t1).mono ?_;rintro e n ⟨tA,rfl,N,u⟩;have g:=(by first|exact S.drew.trans u|exact(S.alloc _).drew.trans u|exact(S.drew.alloc _).trans u);obtain⟨q0,q1,q2,_,_,_,_,_⟩:=J.out n g;(first|(have aI:=(by exact aY.drew.below u);have aZ:=aI;obtain⟨_,_,_,_,_,_,_⟩:=aZ)|skip)))
       all_goals go_wp2_with fail
       all_goals go_meet
       all_goals have au:qe o (ag #[G t,V q A v,V r B z]) (m-h) 1:=(by simpa[Int.sub_eq_add_neg]using aJ)
       all_goals have bh:wr.heap.size<=n.heap.size:=g.size
       all_goals first|exact⟨o.heap.size,t,q,A,v,r,B,z,rfl,qk.new _ _ _ _ _,au.alloc _,k.alloc _⟩|exact⟨n.heap.size,t,q,A,v,r,B,z,rfl,qk.stored M,au.stored M,k.set3 bh _ _ _⟩|exact⟨wr.heap.size,t,q,A,v,r,B,z,rfl,qk.stored M,au.stored M,k.set3 (zh _) _ _ _⟩
      case rest=>
       obtain⟨C,t,q,A,v,r,B,z,rfl,ab,hU,xc⟩:=hcut;have aC:Hid (∀W:H,Calls pg 69 #[it .i64 7] W fun e w'=>∃aS,e= .returned aS/\qe w' aS 7 1/\Below W.heap.size W w'):=fun W=>znn 7 om om W
       have HU:=zi (fun W (d:Ext wc W)=>hU.below d);have I:=zi (fun W (d:Ext wc W)=>And.intro (d.cell ab.1) (And.intro (d.cell ab.2.1) (d.cell ab.2.2.1)));have aE:=zi (fun W (d:Ext wc W)=>aD.out W (xc.trans d));have y0:=Ext.refl wc;obtain⟨n0,aQ,n2⟩:=I.out wc y0;obtain⟨sg,hsg⟩:∃sg,((m-h)*((1:Nat):Int)+(-7)*((1:Nat):Int)).sign=sg:=⟨_,rfl⟩;have ai:0<sg↔7<m-h:=by rw[<-hsg,Int.sign_pos_iff];omega
       have aF:=zi hsg;clear hsg hU ab aB aA J aD l0 l1 l2 m0 m1 m2 k2 k3 K;by_cases X:7<m-h
       ·have bd:=ai.2 X;clear ai;have a0:Hid (jj s.data.toList= .error (6,j+3)):=by
         have hw:jz 0 p.rg=E j:=by rw[ao.out,al.out,z8 X]
         rw[Hid,T.out,ak.out];simp only[ad,Jg,hw]
        clear X;go_wp2_with fail
        go_region_held3 (fun w'=>w'.cell? ⟨C,0,O⟩=E (G t)/\w'.cell? ⟨C,1,O⟩=E (V q A v)/\w'.cell? ⟨C,2,O⟩=E (V r B z)) (first|(exact I.out _ (by with_reducible first|assumption|exact Ext.alloc am _|exact Ext.drew am))|go_keep)
         (first|(go_at_call 68;refine(JQ 12 om _ _ _ (m-h) 7 1 1 (HU.out _ g) N t4 dc dc dc).mono ?_;rintro e o ⟨he,F⟩;rw[aF.out]at he;subst he;have k:=g.trans F;obtain⟨o0,o1,o2⟩:=I.out o k)|(go_at_call 69;refine(aC.out _).mono ?_;rintro e n ⟨tA,rfl,N,u⟩;have g:=(by first|exact y0.drew.trans u|exact y0.trans u);obtain⟨q0,q1,q2⟩:=I.out n g))
        all_goals go_wp2
        all_goals go_ret3
        all_goals exact⟨ze8 aa (aE.out _ (by first|exact k|exact k.drew)).wr,Or.inl ⟨6,j+3,a0.out,by first|rfl|(simp;done)|(simp;omega)⟩⟩
       ·have bd:¬0<sg:=fun a1=>X (ai.1 a1)
        clear ai;have aX:Hid (jz 0 p.rg=jz (j+1) (p.rg.drop (j+1))):=by rw[Hid,ao.out,al.out,zW X]
        clear X;go_wp2_with fail
        go_region_held3 (fun w'=>w'.cell? ⟨C,0,O⟩=E (G t)/\w'.cell? ⟨C,1,O⟩=E (V q A v)/\w'.cell? ⟨C,2,O⟩=E (V r B z)) (first|(exact I.out _ (by with_reducible first|assumption|exact Ext.alloc am _|exact Ext.drew am))|go_keep)
         (first|(go_at_call 68;refine(JQ 12 om _ _ _ (m-h) 7 1 1 (HU.out _ g) N t4 dc dc dc).mono ?_;rintro e o ⟨he,F⟩;rw[aF.out]at he;subst he;have k:=g.trans F;obtain⟨o0,o1,o2⟩:=I.out o k)|(go_at_call 69;refine(aC.out _).mono ?_;rintro e n ⟨tA,rfl,N,u⟩;have g:=(by first|exact y0.drew.trans u|exact y0.trans u);obtain⟨q0,q1,q2⟩:=I.out n g))
        all_goals go_wp2
        all_goals go_roundw
        case rel=>exact⟨j+1,by go_num,om,aX,aE.out _ (by first|exact k|exact k.drew)⟩
        case measure=>simp[intOf];omega
     ·have aM:p.rg.length=p.n:=by have:=f.g;omega
      have aW:Hid (jj s.data.toList= .ok p):=by
       have hw:jz 0 p.rg=O:=by
        rw[ao.out,zcf om];rfl
       rw[Hid,T.out,ak.out];simp only[ad,Jg,hw]
      have b4:=ze8 aa K.out.wr;go_wp2;go_ret3
      exact⟨b4,Or.inr ⟨p,l,aW.out,rfl,⟨_,_,_,_,K.out⟩,f⟩⟩
end Go.Proofs.YtnhfdcfnojnofaaGreatDoor.T
