import Derived.Test.YthnopjedhcapmaaGreatDoorMvr1Z20
open Option renaming none->O,some->E
open Go.Value renaming slice->V,bool->G,string->gS,tuple->tp,int->it,agg->ag
open Go.Obj renaming cells->cl
open Go renaming World->H
open Go.Proofs.Tryz renaming prog->pg
open Go.Proofs.Tryz
open Go.Ending renaming returned->Xa
open Go.IntKind renaming i64->Xb
open Go.Addr renaming mk->Xd
set_option linter.unusedSimpArgs false
set_option linter.unusedVariables false
set_option maxHeartbeats 8000000
set_option maxRecDepth 100000
namespace Go.Proofs.YthnopjedhcapmaaGreatDoor
section
def SOut.cuts:SOut->Nat
 |.inl (_,ls)=>ls.length
 |.inr (.inl (_,_,ls))=>ls.length
 |.inr (.inr k)=>k
open Go.RowKit
def SOut.kind:SOut->Int
 |.inl (_,_)=>1
 |.inr (.inl (_,_,_))=>2
 |.inr (.inr _)=>3
def SOut.pts:SOut->List ByteArray
 |.inl (k,_)=>(ptS k).map zT
 |_=> []
def SOut.val (aims:L_):SOut->ByteArray
 |.inl (k,_)=>zT (T.dotZ aims (ptS k))
 |_=>⟨#[]⟩
def SOut.log (aims:L_):SOut->ByteArray
 |.inl (k,ls)=>⟨(zab ls (endG aims k)).toArray⟩
 |.inr (.inl (k,r,ls))=>⟨(zab ls (zcn k r)).toArray⟩
 |.inr (.inr _)=>⟨#[]⟩
theorem solq_form {B:Nat}{aims:L_}{o:SOut}{d e f g i:Value}{w:H}(h:SolQ B aims o (Xa (ag #[d,e,f,g,i])) w):∃(a:A_) (l c:Nat),d=i_ o.kind/\e=V a l c/\f=gS (o.val aims)/\g=i_ (o.cuts:Int)/\i=gS (o.log aims)/\Grw B 9 1 w (V a l c) (o.pts.map zdh):=by
 cases o using SOut.cs with
 |gr k m=>
  obtain⟨⟨a,l,c⟩,b,j⟩:=h;simp only[Ending.returned.injEq,zdU,Array.mk.injEq,za5,zel]at b;obtain⟨rfl,rfl,rfl,rfl,rfl⟩:=b;exact⟨a,l,c,rfl,rfl,rfl,rfl,rfl,j⟩
 |no k r m=>
  have b:Ending.returned (ag #[d,e,f,g,i])=_:=h;simp only[Ending.returned.injEq,zdU,Array.mk.injEq,za5,zel]at b;obtain⟨rfl,rfl,rfl,rfl,rfl⟩:=b;exact⟨O,0,0,rfl,rfl,rfl,rfl,rfl,Xt _ _ _ _⟩
 |li m=>
  have b:Ending.returned (ag #[d,e,f,g,i])=_:=h;simp only[Ending.returned.injEq,zdU,Array.mk.injEq,za5,zel]at b;obtain⟨rfl,rfl,rfl,rfl,rfl⟩:=b;exact⟨O,0,0,rfl,rfl,rfl,rfl,rfl,Xt _ _ _ _⟩
theorem five_cells {w w':H}{g:Nat}{a b c d e:Value}(h:w.heap[g]? =E (cl #[a,b,c,d,e] 35))(f:Ext w w'):w'.cell? (Xd g 0 O)=E a/\w'.cell? (Xd g 1 O)=E b/\w'.cell? (Xd g 2 O)=E c/\w'.cell? (Xd g 3 O)=E d/\w'.cell? (Xd g 4 O)=E e:=
 ⟨f.cell (c_ 0 h),f.cell (c_ 1 h),f.cell (c_ 2 h),f.cell (c_ 3 h),f.cell (c_ 4 h)⟩
section

end
theorem res_box {w1 b:H}{B:Nat}{o:SOut}(mx:L_){a:A_}{l c:Nat}(h:Ext w1 b)(d:Grw B 9 1 b (V a l c) (o.pts.map zdh)):(b.alloc (cl #[i_ o.kind,V a l c,gS (o.val mx),i_ (o.cuts:Int),gS (o.log mx)] 35)).heap[b.heap.size]? =E (cl #[i_ o.kind,V a l c,gS (o.val mx),i_ (o.cuts:Int),gS (o.log mx)] 35)/\Ext w1 (b.alloc (cl #[i_ o.kind,V a l c,gS (o.val mx),i_ (o.cuts:Int),gS (o.log mx)] 35))/\Grw B 9 1 (b.alloc (cl #[i_ o.kind,V a l c,gS (o.val mx),i_ (o.cuts:Int),gS (o.log mx)] 35)) (V a l c) (o.pts.map zdh):=
 ⟨zC _ _,h.alloc _,d.ext ((Xe _).alloc _)⟩
theorem pts_len {p:qF}(h:zc5 p){c q:Nat}{o:SOut}(ho:zbF p c q=o):o.pts.length<=1000:=by
 cases o using SOut.cs with
 |gr k b=>
  have d:(ptS k).length=p.n:=((zik h c q).1 k b ho).1.1;have d:=h.n4;show((ptS k).map zT).length<=1000
  rw[zm];omega
 |no k r b=>simp[SOut.pts]
 |li m=>simp[SOut.pts]
def OutV (aims:L_)(o:SOut)(a:A_)(l c:Nat):W_:=#[i_ o.kind,V a l c,gS (o.val aims),i_ (o.cuts:Int),gS (o.log aims)]
section

variable {mx lo hi:L_} {gs:List (L_)} {ss rs:L_}
theorem foundSmall_any (c:zai mx lo hi gs ss rs){o:SOut}(ho:zbF (QA mx lo hi gs ss rs) 1099511627776 1099511627776=o)(W:H){B:Nat}(b:B<=W.heap.size)(d:Tab W):
 C_ 10 #[gS ⟨(ze4 (QA mx lo hi gs ss rs)).toArray⟩] W fun e w'=>∃a l n,e=Xa (tp #[ag (OutV mx o a l n),G true])/\Grw B 9 1 w' (V a l n) (o.pts.map zdh)/\b_ W w':=by
 refine(zpN _ _ (zmX c) W b d).mono ?_;rintro e w' ⟨⟨_,a,l,n,_,_,_,rfl,h⟩,j⟩;rw[ho]at h;obtain⟨_,_,_,b,c,d,f,g,i⟩:=solq_form h;cases b;cases c;cases d;cases f;cases g;exact⟨a,l,n,rfl,i,j⟩
theorem small_is (g:zai mx lo hi gs ss rs){o:SOut}(ho:zbF (QA mx lo hi gs ss rs) 1099511627776 1099511627776=o):∀b,za8 mx lo hi gs ss rs (8^mx.length) b->IsV mx o.kind o.pts (o.val mx) b:=fun b c=>by
 obtain⟨d,e,f⟩:=zjF g.shape c (cuts:=1099511627776) (pivots:=1099511627776) dc dc;cases o using SOut.cs with
 |gr k c=>rw[d k c ho];exact⟨rfl,rfl,rfl⟩
 |no k r c=>rw[e k r c ho];exact⟨rfl,rfl,rfl⟩
 |li m=>exact absurd ho (f m)
end

end

section
variable {a:Int}
def shL (a:Int)(l:L_):L_:=l.map fun z=>a+z
def shR (a:Int)(gs:List (L_))(rs:L_):L_:=List.zipWith (fun g r=>a*g.sum+r) gs rs
theorem shL_len(a:Int)(l:L_):(shL a l).length=l.length:=zm _
theorem shL_get(a:Int)(l:L_)(i:Nat):(shL a l)[i]? =l[i]?.map fun z=>a+z:=zR
theorem shL_at{l:L_}{i:Nat}{y:Int}(h:(shL a l)[i]? =E y):∃z,l[i]? =E z/\y=a+z:=by
 rw[shL_get]at h;obtain⟨z,b,c⟩:=Option.map_eq_some_iff.1 h;exact⟨z,b,c.symm⟩
theorem shR_at{gs:List (L_)}{rs:L_}{k:Nat}{g:L_}{r:Int}(hg:gs[k]? =E g)(b:rs[k]? =E r):(shR a gs rs)[k]? =E (a*g.sum+r):=by
 rw[shR,List.getElem?_zipWith,hg,b]
theorem shR_of{gs:List (L_)}{rs:L_}(c:rs.length=gs.length){k:Nat}{g:L_}{y:Int}(hg:gs[k]? =E g)(h:(shR a gs rs)[k]? =E y):∃r,rs[k]? =E r/\y=a*g.sum+r:=by
 have b:k<rs.length:=by rw[c];exact(zo.1 hg).1
 refine⟨rs[k],zg b,?_⟩;rw[shR_at hg (zg b)]at h;exact(Q8 h).symm
theorem dot_sh(a:Int):∀(g x:L_),g.length=x.length->T.dotZ g (shL a x)=a*g.sum+T.dotZ g x
 |[],_,_=>by simp[T.dotZ]
 |_::_,[],h=>by simp at h
 |c::g,y::x,h=>by
  have b:=dot_sh a g x (by simpa using h);simp only[T.dotZ,shL,Zk,List.zipWith_cons_cons,QI]at b⊢;rw[b,zbd,zbd,Qp c a];omega
theorem ptK_sh(a:Int):∀(lo:L_) (k:Nat),ptK (shL a lo) k=shL a (ptK lo k)
 |[],_=>rfl
 |l::lo,k=>by
  have b:=ptK_sh a lo (k/8);simp only[shL,Zk,ptK]at b⊢;rw[b,Int.add_assoc]
theorem ahead_sh(a:Int):∀(b x y:L_),za6 b (shL a x) (shL a y)=za6 b x y
 |[],_,_=>by simp[za6]
 |_::_,[],_=>by simp[za6,shL]
 |_::_,_::_,[]=>by simp[za6,shL]
 |m::b,x::xs,y::ys=>by
  have c:=ahead_sh a b xs ys;simp only[shL,Zk,za6]at c⊢;rw[c];have b:(a+x=a+y)=(x=y):=propext ⟨fun h=>om,fun h=>om⟩;have c:(a+y<a+x)=(y<x):=propext ⟨fun h=>om,fun h=>om⟩;simp only[b,c]
section

variable {a:Int} {mx lo hi:L_} {gs:List (L_)} {ss rs:L_}
theorem better_sh {x y:L_}(b:x.length=mx.length)(c:y.length=mx.length):zci mx (shL a x) (shL a y)↔zci mx x y:=by
 unfold zci;rw[dot_sh a mx x b.symm,dot_sh a mx y c.symm,ahead_sh];constructor<;>(rintro(h|⟨h,k⟩);exact .inl om;exact .inr ⟨om,k⟩)
theorem meets_sh (p:rs.length=gs.length)(hg:∀g∈gs,g.length=mx.length){x:L_}(l:x.length=mx.length):zc8 (shL a lo) (shL a hi) gs ss (shR a gs rs) (shL a x)↔zc8 lo hi gs ss rs x:=by
 constructor
 ·rintro⟨h,i⟩;refine⟨fun j z m f b c d=>?_,fun k g s r b c d=>?_⟩
  ·have:=h j (a+z) (a+m) (a+f) (by rw[shL_get,b];rfl) (by rw[shL_get,c];rfl) (by rw[shL_get,d];rfl);omega
  ·have:=i k g s _ b c (shR_at b d);rw[dot_sh a g x (by rw[hg g (zx b),l])]at this;exact⟨fun e=>by have:=this.1 e;omega,fun e=>by have:=this.2 e;omega⟩
 ·rintro⟨h,i⟩;refine⟨fun j z m f b c d=>?_,fun k g s r b c d=>?_⟩
  ·obtain⟨_,m,rfl⟩:=shL_at b;obtain⟨_,o,rfl⟩:=shL_at c;obtain⟨_,f,rfl⟩:=shL_at d;have:=h j _ _ _ m o f;omega
  ·obtain⟨_,f,rfl⟩:=shR_of p b d;have:=i k g s _ b c f;rw[dot_sh a g x (by rw[hg g (zx b),l])];exact⟨fun e=>by have:=this.1 e;omega,fun e=>by have:=this.2 e;omega⟩
theorem best_sh (d:ShapeP mx lo hi gs ss rs){k:Nat}{b:Option (L_)}(h:za8 mx lo hi gs ss rs k b):za8 mx (shL a lo) (shL a hi) gs ss (shR a gs rs) k (b.map (shL a)):=by
 have hm:=fun j=>meets_sh (a:=a) (lo:=lo) (hi:=hi) (ss:=ss) d.lr d.bg (x:=ptK lo j) (by rw[zaz,d.ll])
 cases b with
 |none=>exact fun j e c=>h j e ((hm j).1 (by rw[ptK_sh]at c;exact c))
 |some y=>
  obtain⟨f,⟨i,rfl⟩,g⟩:=h;refine⟨(hm i).2 f,⟨i,(ptK_sh a lo i).symm⟩,fun j e c f=>?_⟩;rw[ptK_sh]at c f;exact g j e ((hm j).1 c) ((better_sh (by rw[zaz,d.ll]) (by rw[zaz,d.ll])).1 f)
theorem shape_sh (b:ShapeP mx lo hi gs ss rs):ShapeP mx (shL a lo) (shL a hi) gs ss (shR a gs rs):=by
 refine⟨b.n1,b.n3,by rw[shL_len,b.ll],by rw[shL_len,b.lh],b.k,b.ls,by rw[shR,jY,b.lr,zbG],b.b6,fun r c=>?_,b.bg,b.bs⟩;rw[shL,shL,List.zip_map]at c;obtain⟨q,d,rfl⟩:=qP.1 c;have:=b.w q d;simp only[Prod.map];omega
theorem sum99:∀(g:L_),(∀z∈g,z.natAbs<=99)->g.sum.natAbs<=99*g.length
 |[],_=>sp
 |x::g,h=>by
  have h1:=h x qA;have b:=sum99 g fun z b=>h z (qq _ b)
  rw[QI,qi];omega
theorem far_bd {a s r:Int}(b:a.natAbs<10^30)(hs:s.natAbs<=999)(c:r.natAbs<=999999999):(a*s+r).natAbs<10^34:=by
 have c:(a*s).natAbs<=10^30*999:=by rw[zbv];exact Z7 (zcw b) hs
 have b:(10:Nat)^34=10^30*10000:=dc;rw[b];have b:(1000000000:Nat)<=10^30:=dc;generalize 10^30=P at *;generalize a*s=t at *;omega
theorem far_add {a z:Int}(b:a.natAbs<10^30)(c:z.natAbs<=999999999):(a+z).natAbs<10^34:=by
 have:=far_bd (s:=1) b dc c;rwa [zet]at this
theorem itoa_len35 (z:Int)(h:z.natAbs<10^34):(Lib.itoa z).length<=35:=by
 have b:=zbS 34 z.natAbs h om;unfold Lib.itoa;split
 ·simp;omega
 ·rw[show z.toNat=z.natAbs by omega];omega
theorem tell_len36 (zs:L_)(h:∀z∈zs,z.natAbs<10^34):(QF zs).length<=zs.length*36:=
 zfT _ 36 zs (fun z b=>by have:=itoa_len35 z (h z b);rw[qi];omega)
theorem far_parse (h:ShapeP mx lo hi gs ss rs)(l:∀z∈lo,z.natAbs<10^34)(j:∀z∈hi,z.natAbs<10^34)(m:∀g∈gs,∀z∈g,z.natAbs<=99)(o:∀z∈rs,z.natAbs<10^34):JY (ze4 (QA mx lo hi gs ss rs))= .ok (QA mx lo hi gs ss rs):=by
 have f:(10:Nat)^34<10^40:=dc;have s:(99:Nat)<10^34:=dc;have b:=h.n3;have i:∀x∈gs.zip ((ss.map Q1).zip rs),(x.1.length=mx.length/\∀z∈x.1,z.natAbs<10^34)/\(∃k,x.2.1=Q1 k)/\x.2.2.natAbs<10^34:=by
  rintro⟨g,sg,r⟩ b;obtain⟨d,e⟩:=zd5 b;obtain⟨c,p⟩:=zd5 e;obtain⟨k,_,q⟩:=qP.1 c;exact⟨⟨h.bg g d,fun z c=>qu (m g d z c) s⟩,⟨k,q.symm⟩,o r p⟩
 have hm:∀z∈mx,z.natAbs<10^34:=fun z c=>qu (h.b6 z c) dc
 have o:(lo.zip hi).length=mx.length:=by rw[QO,h.ll,h.lh,zbG]
 have m:(gs.zip ((ss.map Q1).zip rs)).length<=3:=by have:=h.k;rw[QO];omega
 have m:Fine (QA mx lo hi gs ss rs):=by
  refine⟨h.n1,by show mx.length<=4;omega,rfl,o,by show(gs.zip _).length<=6;omega,fun x b=>⟨(i x b).1.1,?_⟩,fun z c=>zbr (hm z c) f,fun r b=>?_,fun x b=>⟨fun z c=>zbr ((i x b).1.2 z c) f,zbr (i x b).2.2 f⟩,fun r b=>?_⟩
  ·obtain⟨k,o⟩:=(i x b).2.1;rw[o];exact zrd k
  ·obtain⟨d,e⟩:=zd5 (show(r.1,r.2)∈lo.zip hi from b);exact⟨zbr (l _ d) f,zbr (j _ e) f⟩
  ·have:=h.w r b;omega
 have f:=znX m (zo9 m);rw[zmM]at f;refine f ?_;have f:=tell_len36 mx hm;have f:=zkM (mx.length:Int) om;have f:((lo.zip hi).flatMap za1).length<=(lo.zip hi).length*90:=zfT _ 90 _ (fun r b=>by
  obtain⟨d,e⟩:=zd5 (show(r.1,r.2)∈lo.zip hi from b);have:=tell_len36 [r.1,r.2] (by intro z c;simp only[zI,zY,Zp]at c;rcases c with rfl|rfl;exact l _ d;exact j _ e);simp[za1,Je]at this⊢;omega)
 have d:((gs.zip ((ss.map Q1).zip rs)).flatMap rowS).length<=(gs.zip ((ss.map Q1).zip rs)).length*160:=zfT _ 160 _ (fun x b=>by
  obtain⟨⟨_,d⟩,⟨k,e⟩,f⟩:=i x b;have b:=tell_len36 x.1 d;have b:=tell_len36 [x.2.2] (by intro z c;simp only[zI,zY,Zp]at c;rw[c];exact f);have c:=zpk k;rw[<-e]at c;simp only[rowS,JX,zM,qi,QK]at b⊢;omega)
 show(zan++32::Lib.itoa (mx.length:Int) ++ [10]++(zbB++QF mx ++ [10])++(lo.zip hi).flatMap za1++(gs.zip ((ss.map Q1).zip rs)).flatMap rowS).length<=2000
 simp only[zan,zbB,zM,qi,QK];omega
theorem shL_bd (b:a.natAbs<10^30){l:L_}(h:∀z∈l,z.natAbs<=99):∀z∈shL a l,z.natAbs<10^34:=fun z d=>by
 obtain⟨y,c,rfl⟩:=qP.1 d;exact far_add b (zF (h y c) dc)
theorem moved_parse (c:a.natAbs<10^30)(b:zai mx lo hi gs ss rs):JY (ze4 (QA mx (shL a lo) (shL a hi) gs ss (shR a gs rs)))= .ok (QA mx (shL a lo) (shL a hi) gs ss (shR a gs rs)):=by
 refine far_parse (shape_sh b.shape) (shL_bd c b.bl) (shL_bd c b.bh) (fun g d=>(b.bg g d).2) fun z d=>?_
 obtain⟨_,hi⟩:=Jq.1 d;rw[shR,List.getElem?_zipWith]at hi;split at hi
 ·rename_i g r e f
  cases hi;have d:=b.bg g (zx e);have e:=sum99 g d.2;have g:=b.n3;exact far_bd c (by rw[d.1]at e;omega) (zF (b.br r (zx f)) dc)
 ·cases hi
theorem moved_list (c:zai mx lo hi gs ss rs){b:Option (L_)}(hb:za8 mx lo hi gs ss rs (8^mx.length) b){o:SOut}(ho:zbF (QA mx (shL a lo) (shL a hi) gs ss (shR a gs rs)) 1099511627776 1099511627776=o):
 (b=O->o.kind=2)/\∀x,b=E x->o.kind=1/\o.pts=(shL a x).map zT/\o.val mx=zT (a*mx.sum+T.dotZ mx x):=by
 obtain⟨e,f,g⟩:=zjF (shape_sh (a:=a) c.shape) (best_sh (a:=a) c.shape hb) (cuts:=1099511627776) (pivots:=1099511627776) dc dc;cases o using SOut.cs with
 |gr k d=>
  have h:=e k d ho;refine⟨fun e=>(by rw[e]at h;cases h),fun x e=>?_⟩;rw[e]at h;have h:shL a x=JZ k:=Q8 h;have i:mx.length=x.length:=by
   subst e;obtain⟨_,⟨_,hi⟩,_⟩:=hb;rw[hi,zaz,c.ll]
  exact⟨rfl,by rw[h];rfl,by rw[<-dot_sh a mx x i,h];rfl⟩
 |no k r d=>
  have h:=f k r d ho;exact⟨fun _=>rfl,fun x e=>(by rw[e]at h;cases h)⟩
 |li m=>exact absurd ho (g m)
end

end

section
open Go.RowKit
variable {z:Int}
theorem num_wT(h:z.natAbs<=999999999)(W:H)(b:Tab W):C_ 6 #[i_ z] W fun e w'=>e=Xa (gS (wT z))/\b_ W w':=zef z om om W b
theorem shift_any{a:Int}(d:a.natAbs<10^30)(b:z.natAbs<=999999999)(W:H)(hg:Gl W):C_ 8 #[gS (wT a),i_ z] W fun e w'=>e=Xa (gS (wT (a+z)))/\b_ W w':=by
 have c:(10:Nat)^30<10^40:=dc;have h:=zf (num_wT b W hg.1);have f:=zf (kc_plus a z (zbr d c) (qu b dc));generalize wT a=g at *;generalize wT z=g at *;generalize wT (a+z)=g at *;have g:=zf hg;clear c d b hg;go_enter func8,ntmps8
 go_wp2_with fail
 refine h.out.mono ?_;rintro e b ⟨rfl,b⟩;go_wp2_with fail
 refine(f.out _ (g.out.below b)).mono ?_;rintro e c ⟨rfl,c⟩;go_wp2;go_ret;exact⟨rfl,b.trans (c.mono b.size)⟩
theorem ranges_sh(a:Int){lo hi:L_}{i:Nat}(d:i<lo.length)(c:i<hi.length)(b:U_):b++(((shL a lo).zip (shL a hi)).take (i+1)).flatMap za1=b++(((shL a lo).zip (shL a hi)).take i).flatMap za1++za1 (a+lo[i],a+hi[i]):=by
 have b:i<((shL a lo).zip (shL a hi)).length:=by rw[QO,shL_len,shL_len];omega
 have e:((shL a lo).zip (shL a hi))[i]=(a+lo[i],a+hi[i]):=by rw[List.getElem_zip];simp[shL]
 rw[ZQ b,e,ZX,Qo,JP,ZR,Zl]
theorem rows_sh(a:Int){gs:List (L_)}{ss rs:L_}{k:Nat}(hg:k<gs.length)(hs:k<ss.length)(c:k<rs.length)(b:U_):b++((gs.zip ((ss.map Q1).zip (shR a gs rs))).take (k+1)).flatMap rowS=b++((gs.zip ((ss.map Q1).zip (shR a gs rs))).take k).flatMap rowS++rowS (gs[k],Q1 ss[k],a*gs[k].sum+rs[k]):=by
 have b:k<(gs.zip ((ss.map Q1).zip (shR a gs rs))).length:=by simp only[QO,zm,shR,jY];omega
 have e:(gs.zip ((ss.map Q1).zip (shR a gs rs)))[k]=(gs[k],Q1 ss[k],a*gs[k].sum+rs[k]):=by
  rw[List.getElem_zip,List.getElem_zip,zaJ];simp[shR]
 rw[ZQ b,e,ZX,Qo,JP,ZR,Zl]
theorem wT_34(h:z.natAbs<10^34):(wT z).size<=41:=wT_size z (zbr h dc)
theorem sum_take(g:L_)(j:Nat)(h:j<g.length):(g.take (j+1)).sum=(g.take j).sum+g[j]:=by
 rw[ZQ h,List.sum_append];simp
theorem sum_small{g:L_}(h:∀z∈g,z.natAbs<=99)(b:g.length<=3)(j:Nat):(g.take j).sum.natAbs<=297:=by
 have:=sum99 (g.take j) fun z b=>h z (ZY b)
 have b:(g.take j).length<=3:=by rw[zX];omega
 omega
theorem wT_neg(A:Nat)(b:A≠0):(⟨#[45]⟩:ByteArray)++wT A=wT (-(A:Int)):=by
 unfold wT;rw[itoa_nat,Lib.itoa,zQ om,show(-(A:Int)).natAbs=A by omega];exact JW [45] _
theorem keepMoved_any(bj wh:ByteArray)(neg:Bool)(w:H)(hs:bj.size<=9223372036854775807)(hw:wh.size<=9223372036854775807)(hg:Gl w):
 Calls pg 3 #[gS bj,gS wh,G neg] w fun e w'=>e=Xa (G true)/\Below w.heap.size w w':=by
 have a7:=zf (zmT bj w hs);have bs:=zf (fun W=>digits_any wh 29 om hw W);have ck:=zf hg;clear hs hw hg;go_enter func3,ntmps3
 go_wp2_with fail
 refine a7.out.mono ?_;rintro e w1 ⟨_,_,_,_,_,_,mx,lo,hi,gs,ss,rs,rfl,p,X,bN⟩;have x1:Ext w w1:=Xf bN;have HV:=zf p;have d:=zf X;obtain⟨aM,cM,rfl,hm⟩:=p.m;obtain⟨aL,cL,rfl,hl⟩:=p.l;obtain⟨aH,cH,rfl,hh⟩:=p.h;obtain⟨aG,cG,rfl,c7⟩:=p.g;obtain⟨aS,cS,rfl,ar⟩:=p.s;obtain⟨aR,cR,rfl,be⟩:=p.r;obtain⟨t1,x2⟩:=new1 w1 (cl #[V aM mx.length cM,V aL lo.length cL,V aH hi.length cH,V aG gs.length cG,V aS ss.length cS,V aR rs.length cR] 25);rw[X.ll]at hl x2 t1⊢;rw[X.lh]at hh x2 t1⊢;rw[X.ls]at ar x2 t1⊢;rw[X.lr]at be x2 t1⊢;have d5:=X.n1;have aw:=X.n3;have HM:=zf hm;have HL:=zf hl;have HH:=zf hh;have HG:=zf c7;have aK:=zf ar;have aE:=zf be;clear hm hl hh c7 ar be p X bN;go_wp2_with fail
 generalize World.alloc _ _=w2 at *;generalize w1.heap.size=a0 at *;refine(bs.out w2).mono ?_;rintro e g ⟨a5,rfl,bK,hA,bO⟩;have x3:Ext w2 g:=Xf bO;have L:=zf (fun W (b:Ext g W)=>za9 t1 (x3.trans b));have F:Ext w1 g:=x2.trans x3;have r:Hid (∀W,Ext g W->Gl W):=fun W b=>ck.out.below ((x1.trans F).trans b)
 have HA:=zf hA;have bx:=zf (wT_neg a5 bK);have cY:=wT_34 (z:=a5) (by rw[Q9];exact zbr hA dc);clear bO hA bK bs a7 t1;go_upto_if 28 with fail
 go_cut [8] (fun d7 wc=>∃a:Int,d7=gS (wT a)/\Hid (a.natAbs<10^30)/\g=wc)
 case first=>
  cases neg with
  |true=>
   generalize wT (a5:Int)=sA at *;go_wp2_with fail
   all_goals go_meet
   all_goals exact⟨-(a5:Int),by rw[bx.out],by rw[Hid,Int.natAbs_neg,Q9];exact HA.out,rfl⟩
  |false=>
   go_wp2_with fail
   all_goals go_meet
   all_goals exact⟨(a5:Int),rfl,by rw[Hid,Q9];exact HA.out,rfl⟩
 case rest=>
  obtain⟨a,rfl,Z,rfl⟩:=hcut;clear HA bx cY;obtain⟨sa,hsa⟩:∃sa,wT a=sa:=⟨_,rfl⟩;have aF:Hid (∀z:Int,z.natAbs<=999999999->∀W,Ext g W->Calls pg 8 #[gS sa,it Xb z] W fun e w'=>e=Xa (gS (wT (a+z)))/\Below W.heap.size W w'):=fun z hz W b=>hsa▸shift_any Z.out hz W (r.out W b)
  have bD:Hid (∀S:Int,S.natAbs<=999->∀W,Ext g W->Calls pg 9 #[it Xb 3,gS sa,gS (wT S)] W fun e w'=>e=Xa (gS (wT (a*S)))/\Below W.heap.size W w'):=fun S R W b=>hsa▸kc_times a S (zbr Z.out dc) (qu R dc) W (r.out W b)
  have bz:Hid (∀S ai:Int,S.natAbs<=999->ai.natAbs<=999999999->∀W,Ext g W->Calls pg 9 #[it Xb 1,gS (wT (a*S)),gS (wT ai)] W fun e w'=>e=Xa (gS (wT (a*S+ai)))/\Below W.heap.size W w'):=fun S ai R hr W b=>kc_plus (a*S) ai (by have:=far_bd (r:=0) Z.out R dc;rw[Int.add_zero]at this;exact zbr this dc) (qu hr dc) W (r.out W b)
  rw[hsa];clear hsa;obtain⟨b0,b1,b2,b3,b4,b5⟩:=L.out g (Xe _);have y0:=Xe g;have bm:∀z∈mx,z.natAbs<10^10:=fun z hz=>qu (d.out.b6 z hz) dc
  have aA:=zf (fun W (b:Ext g W)=>zef (mx.length:Int) om om W (r.out W b).1);have bC:=zf (fun W (b:Ext g W)=>zm3 W _ mx ((HV.out.m.ext F).ext b) bm om (r.out W b).1);have ak:=zf (T.headS_bytes ⟨mx.length,mx,[],[]⟩);have d0:=zjH mx bm om;have cb:=zdR (mx.length:Int) (by
   have:(4:Nat)<10^10:=dc;omega)
  rw[T.itoa_nat]at aA cb;generalize c8:ByteArray.mk (T.headS ⟨mx.length,mx,[],[]⟩).toArray=hB at *;have ay:=zf c8;clear c8 bm;simp only at ak;generalize ByteArray.mk (Lib.decDigits mx.length).toArray=dB at *;generalize ByteArray.mk (QF mx).toArray=mB at *;have cZ:hB.size<=2000:=by
   rw[<-ak.out];simp only[zbC];have e1:(ByteArray.mk #[118,97,114,115,32]).size=5:=rfl;have e2:(ByteArray.mk #[10,109,97,120]).size=4:=rfl;have e3:(ByteArray.mk #[10]).size=1:=rfl;omega
  have f1:¬9223372036854775807<5+dB.size:=om;have f2:¬9223372036854775807<5+dB.size+4:=om;have cx:¬9223372036854775803<5+dB.size:=om;have f3:¬9223372036854775807<5+dB.size+4+mB.size:=om;have f4:¬9223372036854775807<5+dB.size+4+mB.size+1:=om;have cy:¬9223372036854775806<5+dB.size+4+mB.size:=om;clear b1 b2 b3 b4 b5;go_wp2_with fail
  go_cut [10] (fun sv wc=>sv=gS hB/\Ext g wc)
  case first=>
   go_region_held3 (fun w'=>w'.cell? (Xd a0 0 O)=E (V aM mx.length cM)) (first|(exact(L.out _ ea).1)|go_keep)
    (first|(go_at_call 7;refine(bC.out _ (by with_reducible first|exact f|exact y0.drew|exact y0)).mono ?_;rintro e B ⟨rfl,a2⟩;have u:=Xf a2;have xB:Ext g B:=(by with_reducible first|exact f.trans u|exact y0.drew.trans u);have q0:=(L.out B xB).1)|(go_at_call 6;refine(aA.out _ (by with_reducible first|exact y0.drew|exact y0)).mono ?_;rintro e A ⟨rfl,a1⟩;have t:=Xf a1;have f:Ext g A:=(by with_reducible first|exact y0.drew.trans t|exact y0.trans t);have p0:=(L.out A f).1))
   all_goals go_wp2_with fail
   all_goals go_meet
   all_goals exact⟨by rw[<-ak.out],by first|exact xB|exact xB.drew⟩
  case rest=>
   obtain⟨rfl,xc⟩:=hcut;clear f1 f2 cx f3 f4 cy aA bC ak d0 cb b0;go_wp2_with fail
   go_loopw [10,11] (fun sv v wr=>∃(i:Nat) (c:ByteArray),i<=mx.length/\sv=gS c/\v=it Xb (i:Nat)/\c.size<=2000+i*1000/\Hid (c=⟨(T.headS ⟨mx.length,mx,[],[]⟩++(((shL a lo).zip (shL a hi)).take i).flatMap za1).toArray⟩)/\Ext g wr) (fun _ v _=>mx.length-(intOf v).toNat)
   case atStart=>exact⟨0,_,om,rfl,rfl,om,by rw[Hid,List.take_zero,JP,ZR];exact ay.out.symm,xc⟩
   case round=>
    obtain⟨i,c,_,rfl,rfl,aZ,K,xr⟩:=hrel;obtain⟨p0,p1,p2,_⟩:=L.out wr xr;by_cases ae:i<mx.length
    ·have cV:=d.out.ll;have cU:=d.out.lh;obtain⟨gL,oL,rfl,_,bU⟩:=HL.out om;obtain⟨gH,oH,rfl,_,bS⟩:=HH.out om;have bc:i<lo.length:=om;have b7:i<hi.length:=om;have e1:=d.out.bl _ (zJ bc);have e2:=d.out.bh _ (zJ b7);have c1:=xr.cell (F.cell (bU i _ (zg bc)));have c2:=xr.cell (F.cell (bS i _ (zg b7)));have a4:Hid (c++⟨#[114,97,110,103,101,32]⟩++wT (a+lo[i])++⟨#[32]⟩++wT (a+hi[i])++⟨#[10]⟩=⟨(T.headS ⟨mx.length,mx,[],[]⟩++(((shL a lo).zip (shL a hi)).take (i+1)).flatMap za1).toArray⟩):=by
      rw[Hid,K.out,ranges_sh a bc b7];exact zn4 _ (a+lo[i],a+hi[i])
     have al:=zf (fun W (b:Ext wr W)=>aF.out lo[i] om W (xr.trans b));have a6:=zf (fun W (b:Ext wr W)=>aF.out hi[i] om W (xr.trans b));have bf:=wT_34 (far_add Z.out (z:=lo[i]) om);have ah:=wT_34 (far_add Z.out (z:=hi[i]) om);generalize lo[i]=z1 at *;generalize hi[i]=z2 at *;generalize wT (a+z1)=aB at *;generalize wT (a+z2)=eB at *;have h:=zf (fun W (b:Ext wr W)=>Xc (b.cell p1) (Xc (b.cell p2) (Xc (b.cell c1) (b.cell c2))));have f1:¬9223372036854775807<c.size+6:=om;have cw:¬9223372036854775801<c.size:=om;have f2:¬9223372036854775807<c.size+6+aB.size:=om;have f3:¬9223372036854775807<c.size+6+aB.size+1:=om;have d8:¬9223372036854775806<c.size+6+aB.size:=om;have f4:¬9223372036854775807<c.size+6+aB.size+1+eB.size:=om;have f5:¬9223372036854775807<c.size+6+aB.size+1+eB.size+1:=om;have cz:¬9223372036854775806<c.size+6+aB.size+1+eB.size:=om;have bg:(c++⟨#[114,97,110,103,101,32]⟩++aB++⟨#[32]⟩++eB++⟨#[10]⟩).size<=2000+(i+1)*1000:=by
      have e1:(ByteArray.mk #[114,97,110,103,101,32]).size=6:=rfl;have e2:(ByteArray.mk #[32]).size=1:=rfl;have e3:(ByteArray.mk #[10]).size=1:=rfl;simp only[zbC];omega
     have q:=Xe wr;clear K e1 e2 bU bS bf ah cV cU HG aK aE HM ay;go_wp2;go_region_held3 (fun w'=>w'.cell? (Xd a0 1 O)=E (V (E (Xd gL oL O)) mx.length cL)/\w'.cell? (Xd a0 2 O)=E (V (E (Xd gH oH O)) mx.length cH)/\w'.cell? ⟨gL,oL+i,O⟩=E (it Xb z1)/\w'.cell? ⟨gH,oH+i,O⟩=E (it Xb z2)) (first|(exact h.out _ ea)|go_keep)
      (first|(go_at_call 8;with_reducible refine(al.out _ (by with_reducible first|exact q.drew|exact q)).mono ?_;rintro e A ⟨rfl,a1⟩;have t:=Xf a1;have f:Ext wr A:=(by with_reducible first|exact q.drew.trans t|exact q.trans t);obtain⟨q0,q1,q2,q3⟩:=h.out A f)|(go_at_call 8;with_reducible refine(a6.out _ (by with_reducible first|exact f|exact f.drew)).mono ?_;rintro e B ⟨rfl,a2⟩;have u:=Xf a2;have xB:Ext wr B:=(by with_reducible first|exact f.trans u|exact f.drew.trans u);obtain⟨o0,o1,o2,o3⟩:=h.out B xB))
     all_goals go_wp2
     all_goals go_roundw
     all_goals first|exact⟨i+1,_,om,rfl,by go_num,bg,a4,xr.trans (by first|exact xB|exact xB.drew)⟩|(simp[intOf];omega)
    ·obtain rfl:i=mx.length:=om;have bp:Hid (c=⟨(T.headS ⟨mx.length,mx,[],[]⟩++((shL a lo).zip (shL a hi)).flatMap za1).toArray⟩):=by
      rw[Hid,K.out,zP (by rw[QO,shL_len,shL_len,d.out.ll,d.out.lh];omega)]
     have cJ:c.size<=6000:=om;have x4:Ext g (wr.alloc (cl #[gS ⟨#[32,60,61,32]⟩,gS ⟨#[32,62,61,32]⟩,gS ⟨#[32,61,32]⟩] 9)):=xr.alloc _;have t2:=qR wr (cl #[gS ⟨#[32,60,61,32]⟩,gS ⟨#[32,62,61,32]⟩,gS ⟨#[32,61,32]⟩] 9);have ao:Hid (∀k:Nat,k<3->(wr.alloc (cl #[gS ⟨#[32,60,61,32]⟩,gS ⟨#[32,62,61,32]⟩,gS ⟨#[32,61,32]⟩] 9)).cell? (Xd wr.heap.size k O)=E (gS ⟨(32::Q1 (k:Int) ++ [32]).toArray⟩)):=by
      intro k hk;have:k=0\/k=1\/k=2:=om;rcases this with rfl|rfl|rfl
      ·exact c_ 0 t2
      ·exact c_ 1 t2
      ·exact c_ 2 t2
     clear K aZ t2 HL HH ay cZ;go_wp2_with fail
     generalize World.alloc _ _=w4 at *;generalize wr.heap.size=gq at ao⊢;go_loopw [10,13] (fun sv v wq=>∃(k:Nat) (c:ByteArray),k<=gs.length/\sv=gS c/\v=it Xb (k:Nat)/\c.size<=6000+k*2000/\Hid (c=⟨(T.headS ⟨mx.length,mx,[],[]⟩++((shL a lo).zip (shL a hi)).flatMap za1++((gs.zip ((ss.map Q1).zip (shR a gs rs))).take k).flatMap rowS).toArray⟩)/\Ext w4 wq) (fun _ v _=>gs.length-(intOf v).toNat)
     case atStart=>exact⟨0,_,om,rfl,rfl,om,by rw[Hid,List.take_zero,JP,ZR];exact bp.out,Xe _⟩
     case round=>
      clear bp cJ p0 p1 p2;obtain⟨k,c,hk,rfl,rfl,aZ,K,xq⟩:=hrel;have N:=x4.trans xq;obtain⟨p0,_,_,p3,p4,p5⟩:=L.out _ N;have da:=d.out.k;by_cases af:k<gs.length
      ·have bb:k<ss.length:=by rw[d.out.ls];exact af
       have ba:k<rs.length:=by rw[d.out.lr];exact af
       have X5:=F.trans N;obtain⟨gG,oG,rfl,_,bR⟩:=HG.out om;obtain⟨bI,oS,rfl,_,bX⟩:=aK.out om;obtain⟨gR,oR,rfl,_,bW⟩:=aE.out om;obtain⟨_,_,gc,bZ,bM⟩:=bR k _ (zg af);have c1:=X5.cell bZ;have c2:=X5.cell (bX k _ (zg bb));have c3:=X5.cell (bW k _ (zg ba));have bL:=bM.ext X5;have ad:=d.out.bg _ (zJ af);have cE:=d.out.bs _ (zJ bb);have cD:=d.out.br _ (zJ ba);obtain⟨y,hkk⟩:∃y:Nat,ss[k]=(y:Int):=⟨(ss[k]).toNat,om⟩;have cT:y<3:=om;have c4:=xq.cell (ao.out y cT);have aP:∀z∈gs[k],z.natAbs<10^10:=fun z hz=>qu (ad.2 z hz) dc
       have bf:=zjH _ aP om;have au:=sum_small ad.2 om;have ah:=wT_34 (far_bd (s:=gs[k].sum) (r:=rs[k]) Z.out (by have:=au gs[k].length;rw[Zx]at this;omega) om);have cW:(ByteArray.mk (32::Q1 (y:Int) ++ [32]).toArray).size<=4:=by
        rw[zfg];unfold Q1;split
        ·decide
        ·split<;>decide
       have a4:Hid (c++⟨#[114,111,119]⟩++⟨(QF gs[k]).toArray⟩++⟨(32::Q1 (y:Int) ++ [32]).toArray⟩++wT (a*gs[k].sum+rs[k])++⟨#[10]⟩=⟨(T.headS ⟨mx.length,mx,[],[]⟩++((shL a lo).zip (shL a hi)).flatMap za1++((gs.zip ((ss.map Q1).zip (shR a gs rs))).take (k+1)).flatMap rowS).toArray⟩):=by
        rw[Hid,K.out,rows_sh a af bb ba,hkk];exact zre _ gs[k] (Q1 (y:Int)) (a*gs[k].sum+rs[k])
       rw[hkk]at c2;have R:gs[k].sum.natAbs<=297:=by have:=au gs[k].length;rwa [Zx]at this
       have al:=zf (fun W (b:Ext wr W)=>zm3 W _ gs[k] (bL.ext b) aP om (r.out W (N.trans b)).1);have a6:=zf (fun W (b:Ext wr W)=>num_wT (z:=gs[k].sum) om W (r.out W (N.trans b)).1);have cm:=zf (fun W (b:Ext wr W)=>bD.out gs[k].sum om W (N.trans b));have cn:=zf (fun W (b:Ext wr W)=>num_wT (z:=rs[k]) om W (r.out W (N.trans b)).1);have co:=zf (fun W (b:Ext wr W)=>bz.out gs[k].sum rs[k] om om W (N.trans b));have a8:=zf (fun j (aQ:j<gs[k].length)=>sum_take gs[k] j aQ);have aJ:=zf (Zx (l:=gs[k]));have b6:=ad.1;have bn:=zf ad.2;obtain⟨_,_,cO,b8⟩:=bL;cases cO;rw[b6]at b8 c1 aJ al;have bt:=zf b6;obtain⟨gI,oI,rfl,_,bT⟩:=b8 om;have bq:=zf bT;generalize gs[k]=gv at *;generalize rs[k]=rv at *;have a7:=zf au;have bE:=a4;clear a4 K bR bX bW bM ad cE hkk bZ ao aP au bT b8 b6;go_wp2_with fail
       go_loopw [14,15] (fun uv jv wj=>∃j:Nat,j<=mx.length/\uv=it Xb (gv.take j).sum/\jv=it Xb (j:Nat)/\wr=wj) (fun _ jv _=>mx.length-(intOf jv).toNat)
       case atStart=>exact⟨0,om,sp,rfl,rfl⟩
       case round=>
        obtain⟨j,_,rfl,rfl,rfl⟩:=hrel;by_cases cP:j<mx.length
        ·have c9:j<gv.length:=by rw[bt.out];exact cP
         have cI:=bq.out j gv[j] (zg c9);have e9:=bn.out gv[j] (zJ _);have cA:=a7.out j;have an:=zf (a8.out j c9);generalize gv[j]=z at *;generalize (gv.take j).sum=S at *;go_wp2;go_roundw
         case rel=>exact⟨j+1,om,by rw[an.out],by go_num,by first|trivial|rfl⟩
         case measure=>simp[intOf];omega
        ·obtain rfl:j=mx.length:=om;rw[aJ.out];have a4:=bE;generalize gv.sum=S at *;generalize ByteArray.mk (QF gv).toArray=gB at *;generalize ByteArray.mk (32::Q1 (y:Int) ++ [32]).toArray=sB at *;generalize wT (a*S+rv)=rB at *;generalize wT (a*S)=pB at *;generalize wT S=nB at *;generalize wT rv=vB at *;have h:=zf (fun W (b:Ext wr W)=>Xc (b.cell p3) (Xc (b.cell p4) (Xc (b.cell p5) (Xc (b.cell c1) (Xc (b.cell c2) (Xc (b.cell c3) (b.cell c4)))))));have f1:¬9223372036854775807<c.size+3:=om;have cw:¬9223372036854775804<c.size:=om;have f2:¬9223372036854775807<c.size+3+gB.size:=om;have f3:¬9223372036854775807<c.size+3+gB.size+sB.size:=om;have f4:¬9223372036854775807<c.size+3+gB.size+sB.size+rB.size:=om;have f5:¬9223372036854775807<c.size+3+gB.size+sB.size+rB.size+1:=om;have cz:¬9223372036854775806<c.size+3+gB.size+sB.size+rB.size:=om;have db:(y:Int)<3:=om;have bg:(c++⟨#[114,111,119]⟩++gB++sB++rB++⟨#[10]⟩).size<=6000+(k+1)*2000:=by
          have e1:(ByteArray.mk #[114,111,119]).size=3:=rfl;have e3:(ByteArray.mk #[10]).size=1:=rfl;simp only[zbC];omega
         have q:=Xe wr;clear bE bq bn a7 a8 aJ bt bf ah cW R cD;go_wp2;go_region_held3 (fun w'=>w'.cell? (Xd a0 3 O)=E (V (E (Xd gG oG O)) gs.length cG)/\w'.cell? (Xd a0 4 O)=E (V (E (Xd bI oS O)) gs.length cS)/\w'.cell? (Xd a0 5 O)=E (V (E (Xd gR oR O)) gs.length cR)/\w'.cell? ⟨gG,oG+k,O⟩=E (V (E (Xd gI oI O)) mx.length gc)/\w'.cell? ⟨bI,oS+k,O⟩=E (it Xb (y:Int))/\w'.cell? ⟨gR,oR+k,O⟩=E (it Xb rv)/\w'.cell? (Xd gq y O)=E (gS sB)) (first|(exact h.out _ ea)|go_keep)
          (first|(go_at_call 9;with_reducible refine(co.out _ (by with_reducible first|exact D|exact D.drew)).mono ?_;rintro e wE ⟨rfl,aX⟩;have ab:=Xf aX;have P:Ext wr wE:=(by with_reducible first|exact D.trans ab|exact D.drew.trans ab);obtain⟨l0,l1,l2,l3,_,_,_⟩:=h.out wE P)|(go_at_call 6;with_reducible refine(cn.out _ (by with_reducible first|exact C|exact C.drew)).mono ?_;rintro e wD ⟨rfl,aW⟩;have aa:=Xf aW;have D:Ext wr wD:=(by with_reducible first|exact C.trans aa|exact C.drew.trans aa);obtain⟨m0,_,_,_,_,_,_⟩:=h.out wD D)|(go_at_call 9;with_reducible refine(cm.out _ (by with_reducible first|exact xB|exact xB.drew)).mono ?_;rintro e wC ⟨rfl,aV⟩;have a9:=Xf aV;have C:Ext wr wC:=(by with_reducible first|exact xB.trans a9|exact xB.drew.trans a9);obtain⟨_,d5,_,aw,_,n5,_⟩:=h.out wC C)|(go_at_call 6;with_reducible refine(a6.out _ (by with_reducible first|exact f|exact f.drew)).mono ?_;rintro e B ⟨rfl,a2⟩;have u:=Xf a2;have xB:Ext wr B:=(by with_reducible first|exact f.trans u|exact f.drew.trans u);obtain⟨o0,o1,o2,o3,_,_,_⟩:=h.out B xB)|(go_at_call 7;refine(al.out _ (by with_reducible first|exact q.drew|exact q)).mono ?_;rintro e A ⟨rfl,a1⟩;have t:=Xf a1;have f:Ext wr A:=(by with_reducible first|exact q.drew.trans t|exact q.trans t);obtain⟨q0,q1,q2,q3,q4,q5,_⟩:=h.out A f))
         all_goals go_wp2
         all_goals go_roundw
         all_goals first|(simp[intOf];omega)|exact⟨k+1,_,om,rfl,by go_num,bg,a4,xq.trans (by first|exact P|exact P.drew)⟩
      ·obtain rfl:k=gs.length:=om;have aj:=zf (fun W (b:Ext g W)=>zpN _ _ (moved_parse Z.out d.out) W (zh W.heap.size) (r.out W b).1);have HF:Hid (c=⟨(ze4 (QA mx (shL a lo) (shL a hi) gs ss (shR a gs rs))).toArray⟩):=by
        rw[Hid,K.out,zP (by simp only[QO,zm];omega)];rfl
       rw[<-HF.out]at aj;have bo:=zf (fun W (b:Ext g W)=>zmg W _ _ _ _ _ _ mx lo hi gs ss rs (HV.out.ext (F.trans b)) d.out);simp only[d.out.ll,d.out.lh,d.out.ls,d.out.lr]at bo;have dd:=zpG;obtain⟨o,ho⟩:∃o,zbF (QA mx (shL a lo) (shL a hi) gs ss (shR a gs rs)) 1099511627776 1099511627776=o:=⟨_,rfl⟩;have az:=zf (fun M hb=>moved_list (a:=a) (b:=M) d.out hb ho);have aC:=zf (pts_len (zjE (shape_sh (a:=a) d.out.shape)) ho);rw[ho]at aj;clear HF K aZ ho ao HG aK aE;go_wp2_with fail
       refine(aj.out wr N).mono ?_;rintro e w6 ⟨⟨kind,va,vl,vc,val,n,log,rfl,hq⟩,bP⟩;have hq:SolQ _ mx o _ w6:=hq;obtain⟨_,_,_,e0,e1,e2,e3,e4,hG⟩:=solq_form hq;cases e0;cases e1;cases e2;cases e3;cases e4;have x6:Ext g w6:=N.trans (Xf bP);obtain⟨n5,x7⟩:=new1 w6 (cl #[it Xb o.kind,V va vl vc,gS (o.val mx),it Xb (o.cuts:Int),gS (o.log mx)] 35);have y7:=x6.trans x7;have aT:zeX _ (V va vl vc) o.pts:=zoe ((hG.ext x7).list);obtain⟨q0,q1,q2,q3,q4,q5⟩:=L.out _ y7;clear hq bP hG p0 p3 p4 p5 aj;go_wp2_with fail
       generalize World.alloc _ _=w7 at *;generalize w6.heap.size=gr at *;refine(bo.out w7 y7).mono ?_;rintro e I ⟨bv,M,rfl,aY,a3,aU⟩;have x8:Ext w7 I:=Xf aU;have y8:=y7.trans x8;have aq:=az.out M aY;obtain⟨r0,r1,r2,d6,r4⟩:=five_cells n5 x8;cases M with
       |none=>
        have a3:bv=V O 0 0:=a3;subst a3;have cQ:=aq.1 rfl;rw[cQ]at r0;clear aY aU aq az aT aC;go_wp2;go_ret;exact⟨rfl,(x1.trans F).trans y8⟩
       |some x=>
        obtain⟨k1,k2,k3⟩:=aq.2 x rfl;obtain⟨-,⟨jx,rfl⟩,-⟩:=aY;have a3:Jf I bv (ptK lo jx):=a3;have av:(ptK lo jx).length=mx.length:=by rw[zaz,d.out.ll]
        have aO:=zf (zgs d.out.bl jx);have aN:=zf (fun W (b:Ext I W)=>zeW W _ bv mx (ptK lo jx) (HV.out.m.ext (F.trans (y8.trans b))) (a3.ext b) av.symm om (zkg d.out.bm dc) aO.out);have cK:(T.dotZ mx (ptK lo jx)).natAbs<=18000000:=by have:=zpI (mx:=mx) (lo:=lo) (j:=jx) d.out.b6 d.out.ll aw d.out.bl;unfold Lim at this;omega
        have bF:=zf av;generalize ptK lo jx=x at *;obtain⟨_,_,rfl,bh⟩:=a3;rw[av]at bh aN⊢;obtain⟨_,_,rfl,_,bY⟩:=bh om;have br:=zf bY;have a8:=zf aT;rw[k1]at r0;have bu:=zf k2;have bw:=zf k3;obtain⟨gM,oM,rfl,_,bV⟩:=HM.out om;have ci:=zf bV;have bl:=zf d.out.b6;have aD:=zf (Xc r0 (Xc r1 r2));clear aU aq az bh bY aT k1 k2 k3 bV r0 r1 r2 d6 r4 av q0 q1 q2 q3 q4 q5;obtain⟨i0,cN,d2,d3,d4⟩:=Zn zpl;have cX:∀bi:Prop,Hid bi->bi:=fun bi aQ=>aQ
        go_wp2;go_loopw [19,20,21] (fun pv uv v wj=>∃(i:Nat) (m:List ByteArray),i<=mx.length/\uv=it Xb (mx.take i).sum/\v=it Xb (i:Nat)/\Hid (m.length=i)/\Hid (m=(x.take i).map fun z=>wT (a+z))/\Hid (Grw I.heap.size 9 1 wj pv (m.map strC))/\Ext I wj) (fun _ _ v _=>((mx.length:Int)-intOf v).toNat)
        case atStart=>exact⟨0,[],om,sp,rfl,rfl,rfl,Xt _ _ _ _,Xe _⟩
        case round=>
         obtain⟨i,m,_,rfl,rfl,aI,ap,Q,J⟩:=hrel;by_cases ae:i<mx.length
         ·have b9:i<x.length:=by rw[bF.out];exact ae
          have c0:=J.cell (br.out i _ (zg b9));have cF:=aO.out _ (zJ b9);have d9:=bl.out _ (zJ ae);have a6:Hid (m ++ [wT (a+x[i])]=(x.take (i+1)).map fun z=>wT (a+z)):=by
           rw[Hid,ap.out,ZQ b9,Z6];rfl
          have an:=zf (sum_take mx i ae);have cA:=sum_small d.out.bm aw i;have ch:=zf (fun W (b:Ext I W)=>Xc (L.out W (y8.trans b)).1 (b.cell (y8.cell (F.cell (ci.out i _ (zg ae))))));have HN:=zf (aF.out x[i] (by unfold Lim at cF;omega) wr (y8.trans J));generalize x[i]=z at *;generalize mx[i]=de at *;generalize (mx.take i).sum=S at *;obtain⟨pa,pc,p⟩:=Q.out.shape;rw[zm]at p;subst p;have ar:m.length<=1000:=by have:=aI.out;omega
          clear ap;go_wp2_with fail
          refine HN.out.mono ?_;rintro e w9 ⟨rfl,bQ⟩;have z2:Ext wr w9:=Xf bQ;have z3:Ext wr (w9.alloc (cl #[gS (wT (a+z))] 9)):=z2.alloc _;have bd:=(Q.out.ext z3).own;rw[zm]at bd;have c6:=(Q.out.ext z3).dig;have ah:=(J.trans z2).size;go_wp2_with (at_builtin;refine cX _ ?_)
          unfold Hid;refine JI _ rfl _ _ 30 rfl I.heap.size 9 i0 (gS ⟨#[]⟩) 1 16 underlying30 cN d2 d3 d4 rfl dc (V pa m.length pc) m.length (m.map strC).flatten rfl bd ⟨w9.heap.size,0,O⟩ 1 1 [gS (wT (a+z))] rfl rfl (rec_new w9 [gS (wT (a+z))] 9) (by intro cg Y;simp only[zI,zY,Zp]at Y;subst Y;rfl) om mo om so (w9.heap.size+1) sp (by intro cg Y;simp[Value.cells]at Y;subst Y;intro n e;cases e) (by intro cg Y;simp only[zI,zY,Zp]at Y;subst Y;intro n e;cases e) c6 ?_;intro g4 bG A4 cf bJ cu lt4 bH;have ce:A4.ownsRow I.heap.size 9 1 (V (E (Xd g4 0 O)) ((m.map strC).length+1) bG) ((m.map strC).length+1) ((m.map strC).flatten++strC (wT (a+z))):=by rw[zm];exact cf
          have ax:=(Q.out.ext z3).more (cs:=strC (wT (a+z))) rfl ce bH;rw[zm]at ax;have cj:Hid (Grw I.heap.size 9 1 A4 (V (E (Xd g4 0 O)) (m.length+1) bG) ((m ++ [wT (a+z)]).map strC)):=by rw[Hid,Z6];exact ax
          have HX:Hid (Ext I A4):=zna (J.trans z3) (Qh (U:=fun M=>(V pa m.length pc).ownBlock=E M) bJ (fun M hb=>hb)) (fun M hb=>(Q.out.type M hb).2);obtain⟨_,_⟩:=ch.out A4 HX.out;clear ax ce cf bJ cu lt4 bH bd c6 ah bQ c0;go_wp2;go_roundw
          case rel=>exact⟨i+1,m ++ [wT (a+z)],om,by first|(rw[an.out];done)|(rw[an.out];go_num),by go_num,by rw[Hid,zM,aI.out];rfl,a6,cj,HX.out⟩
          case measure=>simp[intOf];omega
         ·obtain rfl:i=mx.length:=om;have cd:x.take mx.length=x:=zP (by rw[bF.out];exact zh _);have hT:=zr5 Q.out;rw[ap.out,cd]at hT;have ca:(x.map fun z=>wT (a+z))=o.pts:=by rw[bu.out,shL,zcA];rfl
          rw[ca]at hT;have R:=sum_small d.out.bm aw mx.length;rw[Zx]at R⊢;have y9:=y8.trans J;have cp:=zf (fun W (b:Ext wr W)=>num_wT (z:=mx.sum) om W (r.out W (y9.trans b)).1);have cq:=zf (fun W (b:Ext wr W)=>bD.out mx.sum om W (y9.trans b));have cr:=zf (fun W (b:Ext wr W)=>aN.out W (J.trans b));have ct:=zf (fun W (b:Ext wr W)=>num_wT (z:=T.dotZ mx x) om W (r.out W (y9.trans b)).1);have bA:=zf (fun W (b:Ext wr W)=>bz.out mx.sum (T.dotZ mx x) om om W (y9.trans b));have cc:wT (a*mx.sum+T.dotZ mx x)=o.val mx:=bw.out.symm;rw[cc]at bA;have c5:decide (o.pts=o.pts)=true:=zbA rfl;have bB:=zf (fun W (b:Ext wr W)=>zl2 W (V va vl vc) _ o.pts o.pts (a8.out.ext ((x8.trans J).trans b)) (hT.ext b) aC.out aC.out);rw[c5]at bB;have h:=zf (fun W (b:Ext wr W)=>Xc (L.out W (y9.trans b)).1 (Xc ((J.trans b).cell aD.out.1) (Xc ((J.trans b).cell aD.out.2.1) ((J.trans b).cell aD.out.2.2))));obtain⟨pa,pc,p⟩:=Q.out.shape;rw[zm]at p;subst p;generalize d1:o.val mx=vB at *;generalize mx.sum=S at *;generalize T.dotZ mx x=cv at *;generalize wT (a*S)=pB at *;generalize wT S=nB at *;generalize wT cv=dB at *;have q:=Xe wr;clear ap aI Q cd hT ca R cc c5 bu bw a8 br aO bl d1 aN cK;go_wp2_with fail
          go_region_held3 (fun w'=>w'.cell? (Xd a0 0 O)=E (V (E (Xd gM oM O)) mx.length cM)) (first|(exact(h.out _ ea).1)|go_keep)
           (first|(go_at_call 9;with_reducible refine(bA.out _ (by with_reducible first|exact D|exact D.drew)).mono ?_;rintro e wE ⟨rfl,aX⟩;have ab:=Xf aX;have P:Ext wr wE:=(by with_reducible first|exact D.trans ab|exact D.drew.trans ab);obtain⟨l0,l1,l2,l3⟩:=h.out wE P)|(go_at_call 6;with_reducible refine(ct.out _ (by with_reducible first|exact C|exact C.drew)).mono ?_;rintro e wD ⟨rfl,aW⟩;have aa:=Xf aW;have D:Ext wr wD:=(by with_reducible first|exact C.trans aa|exact C.drew.trans aa);have m0:=(h.out wD D).1)|(go_at_call 12;with_reducible refine(cr.out _ (by with_reducible first|exact xB|exact xB.drew)).mono ?_;rintro e wC ⟨rfl,aV⟩;have a9:=Xf aV;have C:Ext wr wC:=(by with_reducible first|exact xB.trans a9|exact xB.drew.trans a9);have k0:=(h.out wC C).1)|(go_at_call 9;with_reducible refine(cq.out _ (by with_reducible first|exact f|exact f.drew)).mono ?_;rintro e B ⟨rfl,a2⟩;have u:=Xf a2;have xB:Ext wr B:=(by with_reducible first|exact f.trans u|exact f.drew.trans u);have o0:=(h.out B xB).1)|(go_at_call 6;with_reducible refine(cp.out _ (by with_reducible first|exact q.drew|exact q)).mono ?_;rintro e A ⟨rfl,a1⟩;have t:=Xf a1;have f:Ext wr A:=(by with_reducible first|exact q.drew.trans t|exact q.trans t);have q0:=(h.out A f).1))
          all_goals go_wp2_with fail
          all_goals refine(bB.out _ (by first|exact P|exact P.drew)).mono ?_
          all_goals rintro e wF ⟨rfl,cC⟩
          all_goals have xF:Ext wr wF:=Xi (by first|exact P|exact P.drew) (Xf cC)
          all_goals obtain⟨_,_,_,_⟩:=h.out wF xF
          all_goals go_wp2
          all_goals go_ret
          all_goals exact⟨rfl,(x1.trans F).trans (y9.trans xF)⟩
