import Derived.Test.YtnhfdcfnojnofaaGreatDoorAds1Z26
import Derived.Test.YtnhfdcfnojnofaaGreatDoorAds1Z22
open Option renaming none->O,some->E
open Go.Value renaming slice->V,bool->G,string->gS,pointer->pn,int->it,agg->ag
open Go.Obj renaming cells->cl
open Go renaming World->H
open Go.Proofs.Tryz renaming prog->pg
open Go.Proofs.Tryz
set_option linter.unusedSimpArgs false
set_option linter.unusedVariables false
set_option maxHeartbeats 2000000
set_option maxRecDepth 100000
namespace Go.Proofs.YtnhfdcfnojnofaaGreatDoor
open Go.RowKit
theorem zce {B:Nat}{a w:H}(h:Below B a w):Below B a w.drew:=⟨h.os,h.tape,h.output,h.size,h.block⟩
theorem zha (a n:Nat)(b:Option Addr)(cap:Nat)(w:H)(h:w.cell? ⟨a,0,O⟩=E (V b n cap))(c:n<=1000):
 Calls pg 149 #[pn (E ⟨a,0,O⟩)] w fun e w'=>e= .returned (it .i64 ((2+n:Nat):Int))/\w'=w:=by
 go_enter func149,ntmps149
 go_wp2;go_ret;exact⟨QW sp,rfl⟩
theorem DQ.shapeR {w:H}{c:Nat}{p:qo}{e a:Value}(h:DQ w c p e a):∃b d,a=V b p.rows.length d:=by
 obtain⟨_,a,b,_⟩:=h.rows;rw[<-a];obtain⟨_,a|⟨_,_,_,c,_⟩⟩:=b;·exact⟨O,0,by rw[a.1,a.2]⟩
 ·exact⟨_,_,c⟩
theorem DQ.colsAt {w:H}{c:Nat}{p:qo}{b d:Value}(h:DQ w c p b d)(e:0<p.n):∃a zs,b=V (E ⟨a,0,O⟩) p.n p.n/\Whs w a zs/\zed p zs:=by
 rcases h.cols with b|⟨a,zs,b,_,c,d⟩
 ·omega
 ·exact⟨a,zs,b,c,d⟩
def StepD (f:Nat)(args:Array Value)(i:Nat)(p:qo)(ws:List (List UInt8))(gp:Nat)(vC vR:Value)(B:Nat)(w:H):Prop:=
 Calls pg f args w fun e w'=>e= .returned (G (Q2 i p ws).isSome)/\Wr (Own gp vC vR) w w'/\∀q,Q2 i p ws=E q->∃vC' vR',DQ w' gp q vC' vR'/\∀k,Own gp vC' vR' k->Own gp vC vR k\/B<=k
theorem zmg (l:List UInt8)(d:l.length<=2000)(a B:Nat)(b c:Value)(w:H)(h:DQ w a qo.none b c)(f:B<=w.heap.size):
 StepD 238 #[pn (E ⟨a,0,O⟩),gS ⟨l.toArray⟩] 0 qo.none (qg l) a b c B w:=by
 refine(zjo l d a b c w h).mono ?_;rintro e a ⟨rfl,b,g⟩;have a:Q2 0 qo.none (qg l)=if T.zbC (qg l)=0 then .none else E ⟨T.zbC (qg l),[],[],[]⟩:=by unfold Q2;rw[z8 rfl]
 rw[a];refine⟨?_,b.mono (fun k e=>Or.inl e),fun q a=>?_⟩;·by_cases b:T.zbC (qg l)=0<;>simp[b]
 ·by_cases b:T.zbC (qg l)=0
  ·rw[z8 b]at a;cases a
  ·rw[zW b]at a;injection a with a
   subst a;obtain⟨i,a,d⟩:=g b;refine⟨i,c,a,fun k a=>?_⟩;rcases a with e|e|e
   ·exact Or.inl (Or.inl e)
   ·exact Or.inr (zL f (d k e))
   ·exact Or.inl (Or.inr (Or.inr e))
theorem znG (l:List UInt8)(hl:l.length<=2000)(gp B:Nat)(p:qo)(vC vR:Value)(w:H)(h:DQ w gp p vC vR)(hn:0<p.n/\p.n<=4)(hrg:p.rg= []):
 StepD 239 #[pn (E ⟨gp,0,O⟩),gS ⟨l.toArray⟩] 1 p (qg l) gp vC vR B w:=by
 obtain⟨bc,zs,rfl,hz,hc⟩:=h.colsAt hn.1;refine(zj0 l hl gp bc p.n vR zs w h.box hn.2 hz hc.1).mono ?_;rintro e w' ⟨rfl,hw,hq⟩;have ht:Q2 1 p (qg l)=if zaU zbv p.n (qg l)=true then E { p with mx:=((qg l).drop 1).map T.wZ } else .none:=by
  unfold Q2 zaU;rw[zW om,z8 rfl];simp only[Qw]
 rw[ht];refine⟨?_,hw.mono (fun k e=>Or.inr (Or.inl (by rw[e];rfl))),fun q hqe=>?_⟩;·cases zaU zbv p.n (qg l)<;>simp
 ·by_cases h0:zaU zbv p.n (qg l)=true
  ·rw[z8 h0]at hqe;injection hqe with hqe
   subst hqe;exact⟨_,_,h.cols_anew rfl hn.1 hw (hq h0) (znD hc hrg (QU h0).1) rfl rfl,fun k hk=>Or.inl hk⟩
  ·rw[zW h0]at hqe;cases hqe
theorem zk3 (i:Nat)(l:List UInt8)(hl:l.length<=2000)(gp B:Nat)(p:qo)(vC vR:Value)(w:H)(h:DQ w gp p vC vR)(hn:0<p.n/\p.n<=4)(h2:2<=i)(hi:i<=1+p.n)(hrg:p.rg.length=i-2):
 StepD 240 #[pn (E ⟨gp,0,O⟩),gS ⟨l.toArray⟩,it .i64 ((i-2:Nat):Int)] i p (qg l) gp vC vR B w:=by
 obtain⟨bc,zs,rfl,hz,hc⟩:=h.colsAt hn.1;refine(ziw l hl gp bc p.n (i-2) vR zs w h.box hn.2 om hz hc.1).mono ?_;rintro e w' ⟨rfl,hw,hq⟩;have ht:Q2 i p (qg l)=if zaU za4 2 (qg l)=true then E { p with rg:=p.rg ++ [(T.wZ ((qg l).getD 1 []),T.wZ ((qg l).getD 2 []))] } else .none:=by
  unfold Q2 zaU;rw[zW om,zW om,z8 hi];simp only[Qw]
 rw[ht];refine⟨?_,hw.mono (fun k e=>Or.inr (Or.inl (by rw[e];rfl))),fun q hqe=>?_⟩;·cases zaU za4 2 (qg l)<;>simp
 ·by_cases h0:zaU za4 2 (qg l)=true
  ·rw[z8 h0]at hqe;injection hqe with hqe
   subst hqe;exact⟨_,_,h.cols_anew rfl hn.1 hw (hq h0) (zk1 hc hrg om (QU h0).1) rfl rfl,fun k hk=>Or.inl hk⟩
  ·rw[zW h0]at hqe;cases hqe
theorem znH (i:Nat)(l:List UInt8)(e:l.length<=2000)(a B:Nat)(p:qo)(d c:Value)(w:H)(h:DQ w a p d c)(b:0<p.n/\p.n<=4)(j:2<=i)(g:¬i<=1+p.n)(k:p.rows.length<6)(f:B<=w.heap.size):
 StepD 241 #[pn (E ⟨a,0,O⟩),gS ⟨l.toArray⟩] i p (qg l) a d c B w:=by
 obtain⟨d,_,rfl,_,_⟩:=h.colsAt b.1;refine(zjX l e a d p c w h b.1 b.2 om).mono ?_;rintro e a ⟨rfl,b,j⟩;have a:Q2 i p (qg l)=if zcY p.n (qg l)=true then E { p with rows:=p.rows ++ [rowOf p.n (qg l)] } else .none:=by
  unfold Q2 zcY rowOf;rw[zW om,zW om,zW g];simp only[Qw,k,true_and]
 rw[a];refine⟨?_,b,fun q a=>?_⟩;·cases zcY p.n (qg l)<;>simp
 ·by_cases b:zcY p.n (qg l)=true
  ·rw[z8 b]at a;injection a with a
   subst a;obtain⟨g,c,d⟩:=j b;refine⟨_,g,c,fun k c=>?_⟩;rcases c with e|e|e
   ·exact Or.inl (Or.inl e)
   ·exact Or.inl (Or.inr (Or.inl e))
   ·exact(d k e).imp (fun e=>Or.inr (Or.inr e)) (fun e=>zL f e)
  ·rw[zW b]at a;cases a
theorem zmh (i:Nat)(l:List UInt8)(z A:Bool)(b:Nat)(p:qo)(m n:Value)(w:H)(h:DQ w b p m n)(d:ji i p)(u:l.length<=2000)(hi:i<=100000):
 Calls pg 148 #[pn (E ⟨b,0,O⟩),ag #[it .i64 ((i+1:Nat):Int),gS ⟨l.toArray⟩,G z,G A]] w fun e w'=>
  e= .returned (G (Q2 i p (qg l)).isSome)/\Wr (Own b m n) w w'/\∀q,Q2 i p (qg l)=E q->∃J K,DQ w' b q J K/\∀k,Own b J K k->Own b m n k\/w.heap.size<=k:=by
 obtain⟨_,_,a0⟩:=h.shapeR;have c:Below w.heap.size w (w.alloc (cl #[it .i64 ((i+1:Nat):Int),gS ⟨l.toArray⟩,G z,G A] 243)):=(zR _ _).alloc (zh _) _;have a:=h.below c;obtain⟨r,N,P,Q,R⟩:=a.box;have t:=c.size;by_cases B:i=0
 ·subst B;obtain rfl:=d.z rfl;have f:=zi (zmg l u b w.heap.size m n _ a t);clear a h d;go_enter func148,ntmps148
  go_wp2_with fail
  refine f.out.mono ?_;rintro e o ⟨rfl,j,g⟩;go_wp2;go_ret;exact⟨rfl,(Wr.of_below c).trans j,g⟩
 ·have v:=d.n om;obtain⟨M,_,Z,_,_⟩:=h.colsAt v.1;by_cases C:i=1
  ·subst C;have f:=zi (znG l u b w.heap.size p m n _ a v (ZP (by have:=d.g;omega)));clear a h d;go_enter func148,ntmps148
   go_wp2_with fail
   refine f.out.mono ?_;rintro e o ⟨rfl,j,g⟩;go_wp2;go_ret;exact⟨rfl,(Wr.of_below c).trans j,g⟩
  ·rw[Z]at r;have s:((i+1:Nat):Int)=(i:Int)+1:=sp;rw[s]at c a r N P Q R t;have x:=zi (fun(W:H) (U:W.cell? ⟨b,0,O⟩=E (V (E ⟨M,0,O⟩) p.n p.n))=>zha b p.n _ _ W U om);have a:=a.keep (zw.drew 0 _);have c:=zce c;have t:=c.size;have a1:¬(i:Int)+1=1:=om;have a2:¬(i:Int)+1=2:=om;by_cases y:i<=1+p.n
   ·have f:=zi (zk3 i l u b w.heap.size p m n _ a v om y (by have:=d.g;omega));have S:(i:Int)+1<=2+(p.n:Int):=om;have F:((i-2:Nat):Int)=(i:Int)+1-2-1:=om;rw[F]at f;clear a h d F s;go_enter func148,ntmps148
    go_wp2_with fail
    go_region_with (go_at_call 149;refine(x.out _ (by exact r)).mono ?_;rintro e o ⟨rfl,rfl⟩)
    all_goals go_wp2_with fail
    all_goals refine f.out.mono ?_
    all_goals rintro e o ⟨rfl,j,g⟩
    all_goals go_wp2
    all_goals go_ret
    all_goals exact⟨rfl,(Wr.of_below c).trans j,g⟩
   ·have S:¬(i:Int)+1<=2+(p.n:Int):=om;subst a0;by_cases D:p.rows.length<6
    ·have f:=zi (znH i l u b w.heap.size p m _ _ a v om y D t);have T:(p.rows.length:Int)<6:=om;clear a h d s;go_enter func148,ntmps148
     go_wp2_with fail
     go_region_with (go_at_call 149;refine(x.out _ (by exact r)).mono ?_;rintro e o ⟨rfl,rfl⟩)
     all_goals go_wp2_with fail
     all_goals refine f.out.mono ?_
     all_goals rintro e o ⟨rfl,j,g⟩
     all_goals go_wp2
     all_goals go_ret
     all_goals exact⟨rfl,(Wr.of_below c).trans j,g⟩
    ·have I:Q2 i p (qg l)= .none:=by
      unfold Q2;rw[zW B,zW C,zW y,zW (fun X=>D X.1)]
     have L:=zi I;have T:¬(p.rows.length:Int)<6:=om;clear a h d s I;go_enter func148,ntmps148
     go_wp2_with fail
     go_region_with (go_at_call 149;refine(x.out _ (by exact r)).mono ?_;rintro e o ⟨rfl,rfl⟩)
     all_goals go_wp2
     all_goals go_ret
     all_goals rw[L.out]
     all_goals exact⟨rfl,Wr.of_below c,fun q Y=>by cases Y⟩
end Go.Proofs.YtnhfdcfnojnofaaGreatDoor
