/-
  PLANESLAW'S AUDITS: for every script the call returns true, and the script reads behind it as before; the listed variables of Go's library lie as their text lays them.
-/
import Derived.Test.YtnhfdcfnojnofaaGreatDoorAds1Z48
import Derived.Test.YtnhfdcfnojnofaaGreatDoorAds1Z49
import Derived.Test.YtnhfdcfnojnofaaGreatDoorAds1Z50
import Derived.Test.YtnhfdcfnojnofaaGreatDoorAds1Z52
open Option renaming none->O,some->E
open Go.Value renaming slice->V,bool->G,string->gS,pointer->pn,tuple->tp,int->it,agg->ag
open Go.Obj renaming cells->cl
open Go renaming World->H
open Go.Proofs.Tryz renaming prog->pg
open Go.Proofs.Tryz
set_option linter.unusedSimpArgs false
set_option linter.unusedVariables false
set_option maxHeartbeats 2000000
set_option maxRecDepth 100000
namespace Go.Proofs.YtnhfdcfnojnofaaGreatDoor
open Go.RowKit
def zba (w:H)(b off:Nat):Prop:=
 ∃(k a c:Int) (s t:ByteArray) (lo:Option Addr) (lc:Nat) (ls:List ByteArray),s.size<=9223372036854775807/\t.size<=9223372036854775807/\ls.length*16<=140737488351232/\(∀l∈ls,l.size<=9223372036854775807)/\T.Sw w (V lo ls.length lc) ls/\
  w.cell? ⟨b,off,O⟩=E (it .i64 k)/\w.cell? ⟨b,off+1,O⟩=E (it .i64 a)/\w.cell? ⟨b,off+2,O⟩=E (it .i64 c)/\w.cell? ⟨b,off+3,O⟩=E (gS s)/\w.cell? ⟨b,off+4,O⟩=E (gS t)/\w.cell? ⟨b,off+5,O⟩=E (V lo ls.length lc)
theorem zba.below {w w':H}{b a:Nat}(h:zba w b a)(c:Below w.heap.size w w')(d:b<w.heap.size):zba w' b a:=by
 obtain⟨t,e,f,y,z,v,u,x,n,o,q,r,s,g,i,j,k,l,m⟩:=h;exact⟨t,e,f,y,z,v,u,x,n,o,q,r,s.below c,(c.cell (p:=⟨b,a,O⟩) d).trans g,(c.cell (p:=⟨b,a+1,O⟩) d).trans i,(c.cell (p:=⟨b,a+2,O⟩) d).trans j,(c.cell (p:=⟨b,a+3,O⟩) d).trans k,(c.cell (p:=⟨b,a+4,O⟩) d).trans l,(c.cell (p:=⟨b,a+5,O⟩) d).trans m⟩
theorem zll (W:H)(g n:Nat)(d:Option Addr)(h:Nat)(a:List ByteArray)(c:Array Value)(l:a.length<=n)(f:c.size=n)(e:W.heap[g]? =E (cl c 9 (0,0)))(b:T.Sw W (V d a.length h) a):
 (Builtin.copy_ #[44,44] 3 #[V (E ⟨g,0,O⟩) n n,V d a.length h]).run pg W= .ok (it .i64 (a.length:Nat)) (W.setRow g (a.map (fun s=>gS s)++c.toList.drop a.length).toArray):=by
 have f:(Tryz.prog.info? 9).map (·.size)=E 1:=kr;rcases b with (⟨d,rfl⟩|⟨j,m,i,d,_,_,k⟩)|⟨_,i,d,rfl⟩
 ·simp only[zV,jL,true_and]at d;obtain⟨rfl,rfl⟩:=d;rw[run_copy_none W 44 44 3 9 _ _ _ _ _ _ underlying44 f sp];simp only[jE,JV,jL,Zd,Array.toArray_toList];rw[setRow_self W g c _ _ e];rfl
 ·simp only[zV,true_and]at d;obtain⟨rfl,rfl⟩:=d;have i:=run_copy_row (P:=pg) W 44 44 3 9 g 0 n n ⟨j,m,O⟩ a.length h c 9 (a.map (fun s=>gS s)) underlying44 f e (by rw[zo];exact(ZL l).symm) (by
   intro j v b;rw[zQ]at b;cases hd:a[j]? with
   |none=>rw[hd]at b;simp at b
   |some d=>
    rw[hd,Zz,z7]at b;have d:=(zn.1 hd).1;have a:=k j d;rw[zk,hd,Zg]at a;subst b;by_cases d:j=0
    ·subst d;simpa[Addr.add]using a
    ·simpa[Addr.add,d]using a) (by rw[zo];omega) (by
   intro v b;obtain⟨s,_,rfl⟩:=ZC.1 b;rfl)
  rw[i];simp[goInt]
 ·simp only[jL];rw[run_copy_none W 44 44 3 9 _ _ _ _ _ _ underlying44 f sp];simp only[jE,JV,Zd,Array.toArray_toList];rw[setRow_self W g c _ _ e];rfl
theorem zkg (k a c:Int)(s t o:ByteArray)(f:Option Addr)(d:Nat)(b:List ByteArray)(hs:s.size<=9223372036854775807)(ht:t.size<=9223372036854775807)(an:o.size<=9223372036854775807)(hl:b.length*16<=140737488351232)(hz:∀l∈b,l.size<=9223372036854775807)(w:H)(J:T.Sw w (V f b.length d) b):
 Calls pg 52 #[ag #[it .i64 k,it .i64 a,it .i64 c,gS s,gS t,V f b.length d],gS o] w fun e w'=>e= .returned (G true)/\Below w.heap.size w w':=by
 obtain⟨i0,a8,v,x,y⟩:=qL T.Tryz.infoStr;obtain⟨n,hn⟩:∃n,b.length=n:=⟨_,rfl⟩;have ao:∀W:H,(Instr.makeSlice 44 (it .i64 ((n:Int)+2)) (it .i64 ((n:Int)+2))).run pg W= .ok (V (E ⟨W.heap.size,0,O⟩) (n+2) (n+2)) (W.alloc (cl (madeCells #[gS ⟨#[]⟩] (n+2)) 9)):=by
  intro W;have:=run_make (P:=pg) W 44 9 i0 _ underlying44 a8 v .i64 .i64 ((n:Int)+2) ((n:Int)+2) om om (by rw[y];omega) om;rw[x,show((n:Int)+2).toNat=n+2 by omega,Qe]at this;exact this
 rw[hn];have aw:n<=8796093021952:=om;clear a8 v x y;go_enter func52,ntmps52
 go_wp2_with fail
 have ad:=zq w (cl #[it .i64 k,it .i64 a,it .i64 c,gS s,gS t,V f n d] 75);have a6:Below w.heap.size w (w.alloc (cl #[it .i64 k,it .i64 a,it .i64 c,gS s,gS t,V f n d] 75)):=(zR _ _).alloc (zh _) _;have v:(w.alloc (cl #[it .i64 k,it .i64 a,it .i64 c,gS s,gS t,V f n d] 75)).heap.size=w.heap.size+1:=sp;generalize w.alloc (cl #[it .i64 k,it .i64 a,it .i64 c,gS s,gS t,V f n d] 75)=p at *;have F:=zq p (cl (madeCells #[gS ⟨#[]⟩] (n+2)) 9);have S:Below w.heap.size w (p.alloc (cl (madeCells #[gS ⟨#[]⟩] (n+2)) 9)):=a6.alloc om _;have af:Below p.heap.size p (p.alloc (cl (madeCells #[gS ⟨#[]⟩] (n+2)) 9)):=(zR _ _).alloc (zh _) _;have aa:=(af.block w.heap.size om).trans ad;have x:(p.alloc (cl (madeCells #[gS ⟨#[]⟩] (n+2)) 9)).heap.size=w.heap.size+2:=so;rw[v]at F;generalize p.alloc (cl (madeCells #[gS ⟨#[]⟩] (n+2)) 9)=z at *;have Y:=zll z (w.heap.size+1) (n+2) f d b _ om (zdf _ _) F (J.below S);rw[hn]at Y;rw[Y];have a9:(madeCells #[gS ⟨#[]⟩] (n+2)).toList.drop n= [gS ⟨#[]⟩,gS ⟨#[]⟩]:=
  (Zt (List.drop n) (zcC (gS ⟨#[]⟩) (n+2))).trans (by rw[zc8,show n+2-n=2 by omega];rfl)
 rw[a9];have I:=setRow_heap z (w.heap.size+1) _ (b.map (fun s=>gS s) ++ [gS ⟨#[]⟩,gS ⟨#[]⟩]).toArray _ _ F;have ab:=(setRow_other z (w.heap.size+1) w.heap.size (b.map (fun s=>gS s) ++ [gS ⟨#[]⟩,gS ⟨#[]⟩]).toArray om).trans aa;have U:=below_setRow S (by omega:w.heap.size<=w.heap.size+1) (b.map (fun s=>gS s) ++ [gS ⟨#[]⟩,gS ⟨#[]⟩]).toArray;have y:(z.setRow (w.heap.size+1) (b.map (fun s=>gS s) ++ [gS ⟨#[]⟩,gS ⟨#[]⟩]).toArray).heap.size=w.heap.size+2:=by rw[size_setRow];exact x
 generalize z.setRow (w.heap.size+1) (b.map (fun s=>gS s) ++ [gS ⟨#[]⟩,gS ⟨#[]⟩]).toArray=g at *;have HV:=zi (J.below U);have ak:g.cell? ⟨w.heap.size+1,n,O⟩=E (gS ⟨#[]⟩):=by
  rw[qh _ _ n _ _ _ I,Ja,zJ so];simp[hn]
 have al:g.frozen? ⟨w.heap.size+1,n,O⟩=false:=ZW _ _ _ _ _ I;have q:=zi I;have a0:=zi U;have a1:=zi ab;clear ad a6 v F S af aa x Y a9 I U ab ao;go_wp2_with fail
 have B:Hid ((g.setCell ⟨w.heap.size+1,n,O⟩ (gS ⟨#[110,111,116,32,121,111,117,114,115]⟩)).heap[w.heap.size+1]? =E (cl (b.map (fun s=>gS s) ++ [gS ⟨#[110,111,116,32,121,111,117,114,115]⟩,gS ⟨#[]⟩]).toArray 9 (0,0))):=by
  rw[Hid,zb6 g _ _ _ _ _ _ q.out,setRow_heap _ _ _ _ _ _ q.out];congr 2
  rw[jT,List.set_append_right _ _ so];simp[hn]
 have A:Hid ((g.setCell ⟨w.heap.size+1,n,O⟩ (gS ⟨#[110,111,116,32,121,111,117,114,115]⟩)).heap[w.heap.size]? =E (cl #[it .i64 k,it .i64 a,it .i64 c,gS s,gS t,V f n d] 75 (0,0))):=by
  rw[Hid,zb6 g _ _ _ _ _ _ q.out,setRow_other _ _ _ _ om];exact a1.out
 have N:Hid (Below w.heap.size w (g.setCell ⟨w.heap.size+1,n,O⟩ (gS ⟨#[110,111,116,32,121,111,117,114,115]⟩))):=by
  rw[Hid,zb6 g _ _ _ _ _ _ q.out];exact below_setRow a0.out om _
 have ap:(g.setCell ⟨w.heap.size+1,n,O⟩ (gS ⟨#[110,111,116,32,121,111,117,114,115]⟩)).heap.size=w.heap.size+2:=by
  rw[zb6 g _ _ _ _ _ _ q.out,size_setRow,y]
 clear HV ak al y q a0 a1;generalize g.setCell ⟨w.heap.size+1,n,O⟩ (gS ⟨#[110,111,116,32,121,111,117,114,115]⟩)=h at *;have a4:=zi (J.below N.out);have ai:Hid (T.Sv h (V (E ⟨w.heap.size+1,0,O⟩) b.length (n+2)) b):=by
  refine Or.inr ⟨_,0,n+2,rfl,om,om,fun i C=>?_⟩;rw[qi,qh _ _ i _ _ _ B.out,Ja,zM (by simpa using C),zQ,zj C,zk,zj C];rfl
 obtain⟨r,R⟩:∃r,zat s.data.toList a (b.map fun l=>l.data.toList) t.data.toList o.data.toList=r:=⟨_,rfl⟩;have a2:Hid (∀W,Ext h W->Calls pg 28 #[gS s,ag #[it .i64 a,V (E ⟨w.heap.size+1,0,O⟩) n (n+2),gS t],gS o] W fun e w'=>e= .returned (tp #[it .i64 (r.1:Nat),it .i64 (r.2:Nat)])/\Below W.heap.size W w'):=by
  intro W j;have u:=zhr s.data.toList a (E ⟨w.heap.size+1,0,O⟩) (n+2) b t o.data.toList W (ai.out.below j) hz ht om (by simpa using an);rw[R,hn]at u;simpa using u
 have a3:Hid (∀W,Ext h W->Calls pg 65 #[gS s,ag #[it .i64 a,V f n d,gS t],gS o] W fun e w'=>e= .returned (tp #[it .i64 (r.1:Nat),it .i64 (r.2:Nat)])/\Below W.heap.size W w'):=by
  intro W j;have u:=T.refAudit_all s a f d b t o W (a4.out.below j) hz ht om;rw[R,hn]at u;exact u
 have Q:Hid (∀W,Ext h W->W.cell? ⟨w.heap.size,1,O⟩=E (it .i64 a)/\W.cell? ⟨w.heap.size,3,O⟩=E (gS s)/\W.cell? ⟨w.heap.size,4,O⟩=E (gS t)/\W.cell? ⟨w.heap.size,5,O⟩=E (V f n d)):=
  fun W j=>⟨j.cell (c_ 1 A.out),j.cell (c_ 3 A.out),j.cell (c_ 4 A.out),j.cell (c_ 5 A.out)⟩
 clear R ap J;have y0:=Ext.refl h;obtain⟨K,L,M,s3⟩:=Q.out h y0;clear y0;have ar:(0:Int)<=(n:Int):=om;have au:(n:Int)<=((n+2:Nat):Int):=om;have av:(n:Int)<=(n:Int)+2:=om;generalize HN:w.heap.size=D at *;go_region_held3 (fun W=>W.cell? ⟨D,1,O⟩=E (it .i64 a)/\W.cell? ⟨D,3,O⟩=E (gS s)/\W.cell? ⟨D,4,O⟩=E (gS t)/\W.cell? ⟨D,5,O⟩=E (V f n d)) (first|(exact Q.out _ ea)|go_keep) (first|(go_at_call 28;refine(a2.out _ (by first|exact Ext.refl _|exact(Ext.refl _).drew)).mono ?_;rintro e w4 ⟨rfl,X⟩;have x4:Ext h w4:=(by first|exact jG X|exact Ext.of X)))
 rename_i aj
 obtain⟨K,L,M,s3⟩:=aj;clear X a2;go_wp2_with fail
 refine(a3.out _ x4).mono ?_;rintro e w5 ⟨rfl,a7⟩;have x5:=x4.trans (Ext.of a7);clear K L M s3 a7 x4 a3;go_wp2_with fail
 go_loopw [11] (fun Z wr=>∃i:Nat,i<=n/\Z=it .i64 (i:Nat)/\Ext h wr) (fun Z _=>((n:Int)-intOf Z).toNat)
 case atStart=>exact⟨0,om,rfl,x5⟩
 case round=>
  obtain⟨i,C,rfl,m⟩:=hrel;obtain⟨K,L,M,s3⟩:=Q.out wr m;by_cases aq:i<n
  ·obtain⟨a5,ah,rfl,_,ae⟩:=a4.out.row (by intro e;rw[e]at hn;simp at hn;omega);have d1:=m.cell (ae i om);have d2:wr.cell? ⟨D+1,i,O⟩=E (gS (b.getD i ⟨#[]⟩)):=by
    refine m.cell ?_;rw[qh _ _ i _ _ _ B.out,Ja,zM so,zQ,zj om,zk,zj om];rfl
   generalize b.getD i ⟨#[]⟩=sx at *;clear ae;have k1:(0:Int)<=(i:Int):=om;have k2:(i:Int)<(n:Int):=om;have k3:(i:Int)<(n:Int)+2:=om;have k4:(i:Int)<((n+2:Nat):Int):=om;clear K L M;go_wp2_with fail
   go_region_held3 (fun W=>W.cell? ⟨D,5,O⟩=E (V (E ⟨a5,ah,O⟩) n d)/\W.cell? ⟨a5,ah+i,O⟩=E (gS sx)/\W.cell? ⟨D+1,i,O⟩=E (gS sx)) (first|(refine⟨?_,?_,?_⟩<;>assumption)|go_keep) (fail)
   go_wp2;go_roundw
   case rel=>exact⟨i+1,om,by go_num,m.drew⟩
   case measure=>simp[intOf];omega
  ·have e1:i=n:=om;subst e1;have d1:wr.cell? ⟨D+1,i,O⟩=E (gS ⟨#[110,111,116,32,121,111,117,114,115]⟩):=by
    refine m.cell ?_;rw[qh _ _ i _ _ _ B.out,Ja,zJ so];simp[hn]
   have d2:wr.cell? ⟨D+1,i+1,O⟩=E (gS ⟨#[]⟩):=by
    refine m.cell ?_;rw[qh _ _ (i+1) _ _ _ B.out,Ja,zJ so];simp[hn]
   go_wp2;go_ret;subst HN;exact⟨rfl,N.out.trans (m.mono N.out.size)⟩
theorem zlm (g:Nat)(a b:Int)(s t j:ByteArray)(h:Option Addr)(f:Nat)(c:List ByteArray)(hs:s.size<=9223372036854775807)(r:t.size<=9223372036854775807)(n:j.size<=9223372036854775807)(k:c.length*16<=140737488351232)(u:∀l∈c,l.size<=9223372036854775807)(w:H)(p:T.Sw w (V h c.length f) c)(o:w.cell? ⟨g,0,O⟩=E (gS j)):
 Calls pg 39 #[pn (E ⟨g,0,O⟩),ag #[it .i64 3,it .i64 a,it .i64 b,gS s,gS t,V h c.length f]] w fun e w'=>e= .returned (G true)/\Below w.heap.size w w':=by
 have m:Below w.heap.size w (w.alloc (cl #[it .i64 3,it .i64 a,it .i64 b,gS s,gS t,V h c.length f] 75)):=(zR _ _).alloc (zh _) _;have i:=zq w (cl #[it .i64 3,it .i64 a,it .i64 b,gS s,gS t,V h c.length f] 75);have q:=zi (fun W (d:Ext w W)=>zkg 3 a b s t j h f c hs r n k u W (p.below d));have k:=zi m;have n:Hid (∀W,Ext (w.alloc (cl #[it .i64 3,it .i64 a,it .i64 b,gS s,gS t,V h c.length f] 75)) W->W.cell? ⟨g,0,O⟩=E (gS j)/\W.cell? ⟨w.heap.size,0,O⟩=E (it .i64 3)/\W.cell? ⟨w.heap.size,1,O⟩=E (it .i64 a)/\W.cell? ⟨w.heap.size,2,O⟩=E (it .i64 b)/\W.cell? ⟨w.heap.size,3,O⟩=E (gS s)/\W.cell? ⟨w.heap.size,4,O⟩=E (gS t)/\W.cell? ⟨w.heap.size,5,O⟩=E (V h c.length f)):=
  fun W d=>⟨d.cell (Ext.cell (w:=w) m o),d.cell (c_ 0 i),d.cell (c_ 1 i),d.cell (c_ 2 i),d.cell (c_ 3 i),d.cell (c_ 4 i),d.cell (c_ 5 i)⟩
 generalize c.length=d at *;go_enter func39,ntmps39
 go_wp2_with fail
 clear m i o p;generalize w.alloc (cl #[it .i64 3,it .i64 a,it .i64 b,gS s,gS t,V h d f] 75)=c at *;obtain⟨_,_,_,_,_,_,_⟩:=n.out c (Ext.refl c);go_region_held3 (fun W=>W.cell? ⟨g,0,O⟩=E (gS j)/\W.cell? ⟨w.heap.size,0,O⟩=E (it .i64 3)/\W.cell? ⟨w.heap.size,1,O⟩=E (it .i64 a)/\W.cell? ⟨w.heap.size,2,O⟩=E (it .i64 b)/\W.cell? ⟨w.heap.size,3,O⟩=E (gS s)/\W.cell? ⟨w.heap.size,4,O⟩=E (gS t)/\W.cell? ⟨w.heap.size,5,O⟩=E (V h d f)) (first|(exact n.out _ ea)|go_keep) (first|(go_at_call 52;refine(q.out _ (by first|exact k.out|exact k.out.drew|exact Ext.drew k.out)).mono ?_;rintro e f ⟨rfl,d⟩;have h:Ext c f:=(by first|exact jG d|exact Ext.of d)))
 all_goals
  go_wp2;go_ret;exact⟨rfl,Ext.trans k.out h⟩
theorem zmL (g:Nat)(a b:Int)(s t h:ByteArray)(f:Option Addr)(d c:Nat)(w:H)(n:qX w g (gS h) (V O 0 0)):
 Calls pg 39 #[pn (E ⟨g,0,O⟩),ag #[it .i64 4,it .i64 a,it .i64 b,gS s,gS t,V f d c]] w fun e w'=>e= .returned (G true)/\qX w' g (gS s) (V O 0 0)/\∀(B:Nat) (W:H),B<=g->Below B W w->Below B W w':=by
 have h:Hid (qX (w.setCell ⟨g,0,O⟩ (gS s)) g (gS s) (V O 0 0)):=by
  obtain⟨i,j,k,l,m⟩:=n;refine⟨zu _ _ _ i,?_,by simpa using k,by simpa using l,by simpa using m⟩;rw[zp _ _ _ _ sp];exact j
 have p:=zi (h.out.alloc (cl #[it .i64 4,it .i64 a,it .i64 b,gS s,gS t,V f d c] 75));have o:Hid (∀(B:Nat) (W:H),B<=g->Below B W w->Below B W ((w.setCell ⟨g,0,O⟩ (gS s)).alloc (cl #[it .i64 4,it .i64 a,it .i64 b,gS s,gS t,V f d c] 75))):=by
  intro B W d c;exact(c.setCell d _).alloc (by have:=h.out.2.2.2.2;omega) _
 obtain⟨i,j,k,l,m⟩:=n;go_enter func39,ntmps39
 go_wp2;go_ret;exact⟨rfl,p.out,o.out⟩
theorem zjM (a:Option Addr)(n cap:Nat)(c:n<=9223372036854775807)(w:H)(j:0<n->∃b d,a=E ⟨b,d,O⟩/\b<w.heap.size/\∀i,i<n->zba w b (d+i*6)):
 Calls pg 15 #[V a n cap,it .i64 3,it .i64 4] w fun e w'=>e= .returned (G true)/\Below w.heap.size w w':=by
 have g:qX (w.alloc (cl #[gS ⟨#[]⟩,V O 0 0] 73)) w.heap.size (gS ⟨#[]⟩) (V O 0 0):=qX.new _ _ _ _;have f:Below w.heap.size w (w.alloc (cl #[gS ⟨#[]⟩,V O 0 0] 73)):=(zR _ _).alloc (zh _) _;go_enter func15,ntmps15
 go_wp2;go_loopw [8] (fun c wr=>∃(i:Nat) (a:ByteArray),i<=n/\c=it .i64 (i:Nat)/\a.size<=9223372036854775807/\qX wr w.heap.size (gS a) (V O 0 0)/\Below w.heap.size w wr) (fun c _=>((n:Int)-intOf c).toNat)
 case atStart=>exact⟨0,⟨#[]⟩,om,rfl,dc,g,f⟩
 case round=>
  obtain⟨i,a,_,rfl,p,h,c⟩:=hrel;by_cases f:i<n
  ·obtain⟨b,d,rfl,d,t⟩:=j om;obtain⟨k,z,A,x,N,M,L,q,K,r,j,v,u,B,C,D,F,I,J⟩:=(t i f).below c d;have f:=h;obtain⟨g,d,l,m,o⟩:=f;by_cases f:k=3
   ·subst f;have f:=zi (zlm w.heap.size z A x N a M L q K r p j v wr u g);clear t v u;generalize q.length=Q at *;go_wp2_with fail
    refine f.out.mono ?_;rintro e y ⟨rfl,r⟩;have j:=h.below r;have s:=c.trans (r.mono c.size);clear g d l m o r B C D F I J f;have r:=j;obtain⟨g,d,l,m,o⟩:=r;go_wp2_with fail
    refine(zho w.heap.size y d).mono ?_;rintro e R ⟨rfl,rfl⟩;go_wp2;go_roundw
    case rel=>exact⟨i+1,a,om,by go_num,p,j,s⟩
    case measure=>simp[intOf];omega
   ·by_cases P:k=4
    ·subst P;have f:=zi (zmL w.heap.size z A x N a M q.length L wr h);clear t v u;generalize q.length=Q at *;go_wp2_with fail
     refine f.out.mono ?_;rintro e y ⟨rfl,j,q⟩;have s:=q w.heap.size w (zh _) c;clear g d l m o q B C D F I J f;have r:=j;obtain⟨g,d,l,m,o⟩:=r;go_wp2_with fail
     refine(zho w.heap.size y d).mono ?_;rintro e R ⟨rfl,rfl⟩;go_wp2;go_roundw
     case rel=>exact⟨i+1,x,om,by go_num,K,j,s⟩
     case measure=>simp[intOf];omega
    ·by_cases d:k<3
     ·go_wp2;go_roundw
      case rel=>exact⟨i+1,a,om,by go_num,p,h,c⟩
      case measure=>simp[intOf];omega
     ·have d:4<k:=om;have d:3<k:=om;go_wp2;go_roundw
      case rel=>exact⟨i+1,a,om,by go_num,p,h,c⟩
      case measure=>simp[intOf];omega
  ·go_wp2;go_ret;exact⟨rfl,c⟩
theorem zln (a:Option Addr)(n cap:Nat)(d:n<=9223372036854775807)(w:H)(f:0<n->∃b c,a=E ⟨b,c,O⟩/\b<w.heap.size/\∀i,i<n->zba w b (c+i*6)):
 Calls pg 8 #[V a n cap] w fun e w'=>e= .returned (G true)/\Below w.heap.size w w':=by
 go_enter func8,ntmps8
 go_wp2_with fail
 refine(zjM a n cap d w f).mono ?_;rintro e a ⟨rfl,a⟩;go_wp2;go_ret;exact⟨rfl,a⟩
open Go.ChangeShapes Go.WideShapes Go.ChangeAt Go.RowKit
theorem zn6:laidOutB pg=true:=kr
theorem zkA {f:Nat->Option Value}:∀{l:List Nat} {r:List Value},l.mapM f=E r->r.length=l.length/\∀(j x:Nat),l[j]? =E x->f x=r[j]?
 |[],r,h=>by
  simp at h;subst h;exact⟨rfl,fun j x a=>by simp at a⟩
 |i::l,r,h=>by
  rw[List.mapM_cons]at h;obtain⟨v,g,h⟩:=zay.1 h;obtain⟨b,d,h⟩:=zay.1 h;have e:=qV h;subst e;obtain⟨b,c⟩:=zkA d;refine⟨by simp[b],fun j x a=>?_⟩;cases j with
  |zero=>simp at a;subst a;simpa using g
  |succ j=>simpa using c j x (by simpa using a)
theorem zjN {w:H}{base:Nat}{a:Addr}{m:Nat}{cs:List Value}(h:w.cells? base a m=E cs):cs.length=m/\∀j v,cs[j]? =E v->w.cell? (a.add j)=E v:=by
 unfold World.cells? at h;split at h
 ·obtain⟨b,c⟩:=zkA h;rw[List.length_range]at b;refine⟨b,fun j v b=>?_⟩;have d:j<m:=by
   have:=(zn.1 b).1;omega
  rw[c j j (by rw[zaw d]),b]
 ·simp at h
theorem zgu {b:Type}{P:Program}{e:TypeId}{p:Nat->Bool}:∀{ds:List (DataW b)} {i:Nat} {d:DataW b},(DataW.weightsAll P e ds).all p=true->ds[i]? =E d->(d.weights P e).all p=true
 |[],i,d,_,h=>by simp at h
 |x::r,i,d,a,h=>by
  rw[DataW.weightsAll,Jj,ZQ]at a;cases i with
  |zero=>simp at h;subst h;exact a.1
  |succ i=>exact zgu a.2 (by simpa using h)
theorem zek {c:Type}{P:Program}{p:Nat->Bool}:∀{ts:List TypeId} {ds:List (DataW c)} {j:Nat} {t:TypeId} {d:DataW c},(DataW.weightsEach P ts ds).all p=true->ts[j]? =E t->ds[j]? =E d->(d.weights P t).all p=true
 |[],ds,j,t,d,_,h,_=>by simp at h
 |_::_,[],j,t,d,_,_,h=>by simp at h
 |x::ts,y::ds,j,t,d,b,h1,a=>by
  rw[DataW.weightsEach,Jj,ZQ]at b;cases j with
  |zero=>simp at h1 a;subst h1;subst a;exact b.1
  |succ j=>exact zek b.2 (by simpa using h1) (by simpa using a)
theorem zfu {c:Type}{P:Program}{p:Nat->Bool}{t e:TypeId}{a b:List (DataW c)}(d:P.underlying t=E (.slice e))(h:((DataW.slice a b).weights P t).all p=true):p ((a.length+b.length)*P.bytesOf e)=true/\(DataW.weightsAll P e a).all p=true:=by
 unfold DataW.weights at h;rw[d]at h;simp only[zci,Jj,ZQ]at h;exact⟨h.1,h.2.1⟩
theorem zhQ {c:Type}{P:Program}{p:Nat->Bool}{t:TypeId}{a:Array Field}{b:List (DataW c)}(d:P.underlying t=E (.struct a))(h:((DataW.agg b).weights P t).all p=true):(DataW.weightsEach P (a.toList.map (·.type)) b).all p=true:=by
 unfold DataW.weights at h;rw[d]at h;exact h
theorem zlo {k:Type}{enc:TypeId×Value->k}{W:H}{Y:Nat->Bool}{held:Bool}{n:Nat}{cs:List Value}{x:DataW k×List MemPlace}
 (h:DataW.trod enc pg W 0 Y held n 44 cs=E x) (U:(x.1.weights pg 44).all (·<=reachBytes)=true):
 ∃(w:Option Addr) (v:Nat) (a:List ByteArray),cs= [V w a.length v]/\a.length*16<=140737488351232/\(∀l∈a,l.size<=9223372036854775807)/\T.Sw W (V w a.length v) a:=by
 rcases DataW.trod_slice underlying44 h with ⟨rfl,_⟩|⟨c,len,f,_,rest,_,_,rfl,rfl,_,K,_,L,r,_,_⟩
 ·exact⟨O,0,[],rfl,sp,sp,Or.inl (Or.inl ⟨rfl,rfl⟩)⟩
 ·have F:Tryz.prog.bytesOf 9=16:=kr;have I:Tryz.prog.cellsOf 9=1:=kr;have o:=(zfu underlying44 U).1;rw[F,zo,zo,L]at o;have B:(len+rest.length)*16<=reachBytes:=by simpa using o
  unfold reachBytes at B;rw[I]at r;have R:∀i,i<len->∃s:ByteArray,W.cell? (c.add i)=E (gS s)/\s.size<=9223372036854775807:=by
   intro i b;have p:=r i b;rw[zj om,Qe]at p;obtain⟨_,J,S⟩:=zay.1 p;obtain⟨t,D⟩:=zjN J;obtain⟨s,A,_,X⟩:=DataW.trod_string underlying9 S;subst A;unfold maxLen at X;have C:=D 0 _ rfl;refine⟨s,?_,om⟩;simpa[Addr.add]using C
  obtain⟨a,M,g⟩:=zcg (P:=fun i s=>W.cell? (c.add i)=E (gS s)/\s.size<=9223372036854775807) len R;subst M;refine⟨E c,f,a,rfl,om,?_,?_⟩
  ·intro l t;obtain⟨i,b,rfl⟩:=QS t;exact(g i _ (zj b)).2
  ·by_cases m:a= []
   ·subst m;exact Or.inr ⟨c,f,rfl,rfl⟩
   ·have N:=Zq.2 m;have j:=(g 0 _ (zj N)).1;obtain⟨d,e,y⟩:=c;have u:W.cell? ⟨d,e,y⟩=E (gS a[0]):=by simpa[Addr.add]using j
    have Q:y=O:=by simpa using World.cell?_spot u
    subst Q;refine Or.inl (Or.inr ⟨d,e,f,rfl,K,World.block_lt_of_cell? W _ u,fun i b=>?_⟩);have q:=(g i _ (zj b)).1;rw[zk,zj b,Zg];have z:Addr.add ⟨d,e,O⟩ i=⟨d,e+i,O⟩:=by
     unfold Addr.add;split
     ·rename_i j;rw[j];rfl
     ·rfl
    rw[z]at q;exact q
theorem zoy {b:Type}{enc:TypeId×Value->b}{W:H}{e:Nat->Bool}{held:Bool}{n:Nat}{a:Addr}{y:DataW b×List MemPlace}
 (h:(W.cells? 0 a 6).bind (DataW.trod enc pg W 0 e held n 75)=E y) (q:(y.1.weights pg 75).all (·<=reachBytes)=true):a.spot=O/\a.block<W.heap.size/\zba W a.block a.off:=by
 obtain⟨c,b,i⟩:=zay.1 h;obtain⟨_,p⟩:=zjN b;obtain⟨b,g,_,rfl,_,j,f⟩:=DataW.trod_struct underlying75 i;have i:b.length=6:=j;have i:Tryz.prog.cellsOf 3=1:=kr;have o:Tryz.prog.cellsOf 9=1:=kr;have r:Tryz.prog.cellsOf 44=1:=kr;have j:DataW.trod enc pg W 0 e held g 3 ((c.drop 0).take (Tryz.prog.cellsOf 3))=b[0]?:=f 0 _ rfl;rw[i,zj om]at j;have k:DataW.trod enc pg W 0 e held g 3 ((c.drop 1).take (Tryz.prog.cellsOf 3))=b[1]?:=f 1 _ rfl;rw[i,zj om]at k;have l:DataW.trod enc pg W 0 e held g 3 ((c.drop 2).take (Tryz.prog.cellsOf 3))=b[2]?:=f 2 _ rfl;rw[i,zj om]at l;have i:DataW.trod enc pg W 0 e held g 9 ((c.drop 3).take (Tryz.prog.cellsOf 9))=b[3]?:=f 3 _ rfl;rw[o,zj om]at i;have m:DataW.trod enc pg W 0 e held g 9 ((c.drop 4).take (Tryz.prog.cellsOf 9))=b[4]?:=f 4 _ rfl;rw[o,zj om]at m;have o:DataW.trod enc pg W 0 e held g 44 ((c.drop 5).take (Tryz.prog.cellsOf 44))=b[5]?:=f 5 _ rfl;rw[r,zj om]at o;obtain⟨D,e,_⟩:=DataW.trod_int underlying3 j;obtain⟨F,f,_⟩:=DataW.trod_int underlying3 k;obtain⟨I,g,_⟩:=DataW.trod_int underlying3 l;obtain⟨B,k,_,z⟩:=DataW.trod_string underlying9 i;obtain⟨C,l,_,A⟩:=DataW.trod_string underlying9 m;have i:=zek (j:=5) (t:=44) (d:=b[5].1) (zhQ underlying75 q) rfl (by rw[zQ,zj om];rfl);obtain⟨w,u,x,m,q,r,s⟩:=zlo o i;have b:∀j v,(c.drop j).take 1= [v]->W.cell? (a.add j)=E v:=by
  intro j v i;refine p j v ?_;have c:=Zt (fun j:List Value=>j[0]?) i;simp only[zb2]at c;rw[QZ om,j8,qy]at c;exact c
 have c:=b 0 _ e;have e:=b 1 _ f;have f:=b 2 _ g;have g:=b 3 _ k;have i:=b 4 _ l;have j:=b 5 _ m;unfold maxLen at z A;obtain⟨_,_,k⟩:=a;have b:k=O:=by simpa[Addr.add]using World.cell?_spot c
 subst b;refine⟨rfl,World.block_lt_of_cell? W _ c,D,F,I,B,C,w,u,x,om,om,q,r,s,?_,?_,?_,?_,?_,?_⟩;·simpa[Addr.add]using c
 ·simpa[Addr.add]using e
 ·simpa[Addr.add]using f
 ·simpa[Addr.add]using g
 ·simpa[Addr.add]using i
 ·simpa[Addr.add]using j
theorem zmM {H:Type}{enc:TypeId×Value->H}{W:World}{b0:Nat}{r:Reach}{v:Value}{d:DataW H}{ps:List MemPlace}(hval:Value.okWide Tryz.prog W r b0 22 v)
 (h:DataW.Trod enc Tryz.prog W 0 (fun _=>true) true 22 v d ps) (hw:(d.weights Tryz.prog 22).all (·<=reachBytes)=true):
 ∃ao n cap,v= .slice ao n cap/\n<=9223372036854775807/\(0<n->∃b off,ao=some ⟨b,off,none⟩/\b<W.heap.size/\∀i,i<n->zba W b (off+i*6)):=by
 obtain⟨ao,n,cap,rfl⟩:=okWide_slice Tryz.underlying22 hval;obtain⟨fuel,hf⟩:=h;have hcells:(Value.slice ao n cap).cells.toList= [.slice ao n cap]:=rfl;rw[hcells]at hf;refine⟨ao,n,cap,rfl,?_,?_⟩
 ·rcases DataW.trod_slice Tryz.underlying22 hf with ⟨h1,_⟩|⟨a,len,cap',elems,rest,k,_,h1,_,_,hlc,hcm,_⟩
  ·simp at h1;omega
  ·simp only[zaI,zV,zcn]at h1;unfold maxLen at hcm;omega
 ·intro hn;rcases DataW.trod_slice Tryz.underlying22 hf with ⟨h1,_⟩|⟨a,len,cap',elems,rest,k,_,h1,hx,_,hlc,hcm,hlen,hel,_,_⟩
  ·simp at h1;omega
  ·simp only[zaI,zV,zcn]at h1;obtain⟨rfl,rfl,rfl⟩:=h1;have hc6:Tryz.prog.cellsOf 75=6:=by kernel_rfl
   rw[hc6]at hel;have hst:∀i,i<n->(a.add (i*6)).spot=none/\(a.add (i*6)).block<W.heap.size/\zba W (a.add (i*6)).block (a.add (i*6)).off:=by
    intro i hi;have h2:=hel i hi;rw[zj (by omega)]at h2;have hd:=(zdG _ _ _ _▸hx).1;subst hd;exact zoy h2 (zgu (i:=i) (zfu Tryz.underlying22 hw).2 (by rw[zQ,zj (by omega)];rfl))
   obtain⟨bb,oo,sp⟩:=a;have h0:=(hst 0 hn).1;simp only[zcD,Addr.add,jo]at h0;subst h0;refine⟨bb,oo,rfl,?_,fun i hi=>?_⟩
   ·have:=(hst 0 hn).2.1;simpa[Addr.add]using this
   ·have h2:=(hst i hi).2.2;have e:Addr.add ⟨bb,oo,none⟩ (i*6)=⟨bb,oo+i*6,none⟩:=by
     unfold Addr.add;split
     ·rename_i hz;rw[hz];rfl
     ·rfl
    rw[e]at h2;exact h2
end Go.Proofs.YtnhfdcfnojnofaaGreatDoor
namespace Go.Proofs.YtnhfdcfnojnofaaGreatDoor
open Go.ChangeShapes Go.WideShapes Go.ChangeAt Go.RowKit
theorem ziM (os:Os)(T:os.Started)(q:Type)(enc:TypeId×Value->q):
 ReturnsInHanded {} Tryz.checked os 8 .any (fun w args=>(Rows.auditsSpec.pre enc pg Tryz.f8 Rows.auditsRow.domain false w args/\laidMetH pg Rows.auditsRow.laid w)/\sizedMet enc pg Tryz.f8 (OpenSpec.ofChange Rows.auditsSpec) false w args)
  (Rows.auditsSpec.post enc pg Tryz.f8 false true false false):=by
 refine zeT (C:=Tryz.checked) (X:=fun w _=>laidMetH pg Rows.auditsRow.laid w) (fun _ _ _ D y=>y.of_heap D) own T kr func8
  (ChangeSpec.witness_shaped (enc:=enc) (C:=Tryz.checked) (os:=os) (X:=fun w _=>laidMetH pg Rows.auditsRow.laid w) false (World.laidAll pg os Rows.auditsRow.laid) #[V O 0 0] 8 (World.laidAll_os _ _ _)
   (World.shaped_of_ZipB kr kr) kr kr kr
   (by rw[MakeChecks.laidMetH_plain _ _ _ kr];exact laidMet_laidAll _ kr kr)) ?_
 intro W base args u Z U l i a0 M hL a1 _;have k:∀(m:Nat) t v,Tryz.f8.params[m]? =E t->args[m]? =E v->Value.okWide pg W .any base t v:=l;have a:=i;obtain⟨R,_,h,A,rfl,_,_⟩:=i;have g:DataW.TrodAll enc pg W 0 (fun _=>true) true Tryz.f8.params.toList args.toList u R:=h;rw[Tryz.params8]at g k;obtain⟨p,_,c,_,n,_,_,rfl,rfl,e,S⟩:=trodAll_cons g;obtain⟨rfl,rfl,rfl⟩:=trodAll_nil S;obtain rfl:args=#[p]:=by cases args;simp_all
 obtain⟨rfl,rfl⟩:=trodVars_none A;simp only[Q1]at a;have L:(c.weights pg 22).all (·<=reachBytes)=true:=by
  refine zek (j:=0) (t:=22) (d:=c) M ?_ rfl;rw[Tryz.params8];rfl
 obtain⟨r,Q,s,rfl,I,J⟩:=zmM (k 0 22 p rfl rfl) e L;clear h l;refine(zln r Q s I W J).mono fun Y b ⟨B,j⟩=>?_
 subst B;have F:=a.lt;exact⟨_,rfl,zk9 (pa:=n) (pv:= []) a (fun _ _ _=>(trodAll_cons_mk (shut_bool underlying4 _) trodAll_mk0))
  (fun o K=>by
   have z:=WideElems.Trod_stays (W':=b) (sp':=o) zn6 kr (QU kr) e (fun x N=>j.same (F x N)) K;have f:=trodAll_cons_mk z (trodAll_mk0 (enc:=enc) (P:=pg) (w:=b) (base:=0) (spare:=o) (held:=true));rw[Q1]at f;exact f) (fun _ _=>rfl) sp j⟩
theorem zlJ:Rows.AuditsSaid:=
 OpenClaim.holds_of_wide 8 Tryz.f8 rfl rfl rfl rfl rfl rfl rfl ⟨rfl,rfl,rfl,rfl,rfl⟩ rfl rfl rfl rfl rfl zf2 func8 ziL
  (QU kr) (by unfold Func.isWrapper;first|(rw[z8 (by decide +kernel)];kernel_rfl)|(rw[zW (by decide +kernel)];exact⟨rfl,rfl⟩))
  (fun c d a b _=>ziM c d a b)
theorem audits_card:Rows.AuditsCardSaid:=
 Claim7.holds_tied_plain_at .later [] [.data,.data,.data,.data,.pinned] true Rows.auditsCard.stood.harness false zlJ (fun _ h=>by cases h) kr (fun _ h=>by cases h) audits_row_tie rfl ⟨rfl,rfl⟩ zkh rfl
  (fun f a b c=>by
   obtain rfl:f=8:=qV (zf2.symm.trans b) |>.symm
   obtain rfl:a=Tryz.f8:=(qV (Tryz.func8.symm.trans c)).symm;exact⟨zox,fun j t a=>by
    rw[Tryz.params8]at a;have b:t∈ [22]:=by simpa using Array.mem_of_getElem? a
    have a:([22].all fun u=>!Tryz.prog.wantsStandIn u)=true:=kr;exact(show Tryz.prog.wantsStandIn t=false by simpa using qR.1 a t b)⟩)
  zki
#print axioms audits_card
end Go.Proofs.YtnhfdcfnojnofaaGreatDoor
