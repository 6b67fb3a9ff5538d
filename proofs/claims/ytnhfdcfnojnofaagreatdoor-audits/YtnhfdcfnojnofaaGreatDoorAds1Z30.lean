import Derived.Test.YtnhfdcfnojnofaaGreatDoorAds1Z21
open Option renaming none->O,some->E
open Go.Value renaming slice->V,bool->G,pointer->pn,tuple->tp,int->it,agg->ag
open Go.Obj renaming cells->cl
open Go renaming World->H
open Go.Proofs.Tryz renaming prog->pg
open Go.Proofs.Tryz
set_option linter.unusedSimpArgs false
set_option linter.unusedVariables false
set_option maxHeartbeats 4000000
set_option maxRecDepth 100000
namespace Go.Proofs.YtnhfdcfnojnofaaGreatDoor.T
open Go.RowKit
structure zdg (w:H)(n:Nat)(ts:List Tri)(R:Tri)(acc:List (Int×Nat)×(Int×Nat)):Prop where
 lt:ts.length=n
 la:acc.1.length=n
 el:∀(i:Nat) (t:Tri) (a:Int×Nat),ts[i]? =E t->acc.1[i]? =E a->qe w t.val a.1 a.2
 r:qe w R.val acc.2.1 acc.2.2
theorem zdg.kept {w w':H}{n:Nat}{ts:List Tri}{R:Tri}{a:List (Int×Nat)×(Int×Nat)}(h:zdg w n ts R a)(b:QH w w'):zdg w' n ts R a:=
 ⟨h.lt,h.la,fun i t a d c=>(h.el i t a d c).kept b,h.r.kept b⟩
theorem zdJ (rows:List (List Int×Int)):∀(a b:List (Nat×Int×Nat)) (c:List (Int×Nat)×(Int×Nat)),qG rows (a++b) c=match qG rows a c with|.ok d=>qG rows b d|.error e=> .error e
 |[],b,c=>rfl
 |x::a,b,c=>by
  rw[Q5,qG,qG];split
  ·rfl
  ·split
   ·rfl
   ·exact zdJ rows a b _
theorem zmj {rows:List (List Int×Int)}{a:List (Nat×Int×Nat)}{k:Nat}{s b:List (Int×Nat)×(Int×Nat)}(c:k<a.length)(h:qG rows (a.take k) s= .ok b):qG rows a s=qG rows (a[k]::a.drop (k+1)) b:=by
 conv=>lhs;rw[<-Qf k a]
 rw[zdJ,h,Zn c]
theorem zj2 {rows:List (List Int×Int)}{a:List (Nat×Int×Nat)}{k:Nat}{s b:List (Int×Nat)×(Int×Nat)}(c:k<a.length)(h:qG rows (a.take k) s= .ok b):qG rows (a.take (k+1)) s=qG rows [a[k]] b:=by
 rw[Zh c,zdJ,h]
theorem Qj.at3 {w:H}{b:Option Addr}{c d:Nat}{zs:List (Int×Nat)}(h:Qj w (V b c d) zs)(e:0<zs.length):c=zs.length/\∃g a,b=E ⟨g,a,O⟩/\g<w.heap.size/\∀(i:Nat) (z:Int×Nat),zs[i]? =E z->∃t:Tri,qe w t.val z.1 z.2/\w.cell? ⟨g,a+i*3,O⟩=E (G t.b)/\w.cell? ⟨g,a+i*3+1,O⟩=E t.up/\w.cell? ⟨g,a+i*3+2,O⟩=E t.down:=by
 obtain⟨b,d,k,c⟩:=h;rcases c with ⟨_,rfl⟩|⟨g,a,_,c,_,f,j⟩
 ·simp at d;omega
 ·simp only[zV]at c;refine⟨by rw[c.2.1,d],g,a,c.1,f,fun i z e=>?_⟩;have c:i<b.length:=by rw[d];exact(zn.1 e).1
  have a:=zj c;exact⟨b[i],k i _ z a e,j i _ a⟩
theorem znJ (z:Int)(h1:-1000000000<=z)(a:z<=1000000000):IntKind.i64.wrap z=z:=by
 rw[IntKind.wrap_i64];omega
theorem mix_at {a:Type}{Z A:List a}{j:Nat}(b:j<Z.length):(Z.take j++A.drop j)[j]? =A[j]?:=by
 have a:(Z.take j).length=j:=by rw[zU];omega
 rw[zJ om,a,Zy,j8,qy]
theorem znK {a:Type}{Z A:List a}{j l:Nat}(c:j<Z.length)(b:A.length=Z.length):(Z.take (j+1)++A.drop (j+1))[l]? =if l=j then Z[j]? else(Z.take j++A.drop j)[l]?:=by
 have b:(Z.take (j+1)).length=j+1:=by rw[zU];omega
 have c:(Z.take j).length=j:=by rw[zU];omega
 by_cases a:l=j
 ·subst a;rw[z8 rfl,zM om,QZ om]
 ·rw[zW a];by_cases a:l<j
  ·rw[zM om,zM om,QZ om,QZ om]
  ·rw[zJ om,zJ om,b,c,j8,j8,show j+1+(l-(j+1))=j+(l-j)by omega]
theorem zdg.put {w w':H}{n j:Nat}{ts:List Tri}{R x:Tri}{Z A:List (Int×Nat)}{r z:Int×Nat}(h:zdg w n ts R (Z.take j++A.drop j,r))(e:QH w w')(f:Z[j]? =E z)(b:Z.length=n)(a:A.length=n)(i:qe w' x.val z.1 z.2):zdg w' n (ts.set j x) R (Z.take (j+1)++A.drop (j+1),r):=by
 have g:=(zn.1 f).1;refine⟨by rw[Zf];exact h.lt,?_,fun l t d b c=>?_,h.r.kept e⟩
 ·show(Z.take (j+1)++A.drop (j+1)).length=n
  rw[zX,zU,qu];omega
 ·have a:(Z.take (j+1)++A.drop (j+1))[l]? =E d:=c;rw[znK g om]at a;by_cases c:l=j
  ·subst c;rw[z8 rfl,f]at a;rw[jm (by rw[h.lt];omega)]at b;have f:=qV a;have g:=qV b;subst f g;exact i
  ·rw[zW c]at a;rw[Q7 (Qi c)]at b;exact(h.el l t d b a).kept e
theorem zbU {w:H}{g:Nat}{t:Tri}{a:TypeId}(h:w.heap[g]? =E (cl #[G t.b,t.up,t.down] a)):jV w g 0 t:=
 ⟨c_ 0 h,c_ 1 h,c_ 2 h,ZX h,ZX h,ZX h⟩
theorem JA {b w:H}{g o:Nat}{t:Tri}(h:Ext b w)(a:b.heap.size<=g):Ext b (QA w g o t):=((Qu h a _).setCell a _).setCell a _
theorem zgJ {w a:H}{t:Tri}{p:Int}{q:Nat}(x:Ext (w.alloc (cl #[G false,V O 0 0,V O 0 0] 118)) a)(h:qe a t.val p q):jV (QA a w.heap.size 0 t) w.heap.size 0 t/\qe (QA a w.heap.size 0 t) t.val p q:=by
 have b:=(x.block _ sp).trans (zq w _);exact⟨zbr t (zbU (t:=zT) b),h.kept (jS (zar b dc))⟩
theorem zmk {l w:H}{e k g n:Nat}{ts:List Tri}{R:Tri}{i:List (Int×Nat)×(Int×Nat)}{j:Tri}(h:jk l w e k g ts R)(f:zdg w n ts j i)(a b c d:Value):Qj ((((w.setCell ⟨e,0,O⟩ a).setCell ⟨e,1,O⟩ b).setCell ⟨e,2,O⟩ c).setCell ⟨e,3,O⟩ d) (V (E ⟨g,0,O⟩) n n) i.1:=by
 have k:g≠e:=fun e=>h.ne.2.1 e.symm
 refine⟨ts,by rw[f.lt,f.la],fun i t z e j=>zbT (f.el i t z e j) h.kr _ _ _ _,Or.inr ⟨g,0,n,by rw[f.lt],by rw[f.lt];exact zh _,by simpa using h.lt.2.2.2.2.2,fun i t e=>?_⟩⟩;obtain⟨f,g,j,_⟩:=(h.el i t e).same (zc1 (a':=a) (b':=b) (c':=c) (d':=d) k);rw[qi];exact⟨f,g,j⟩
theorem Qq {W a:H}(h:Below W.drew.heap.size W.drew a):Ext W a:=⟨h.os,h.tape,h.output,h.size,h.block⟩
theorem znL (n:Nat)(dI:0<n)(dJ:n<=4)(w:H)(vR vP:Value)(rows:List (List Int×Int))(ps:List (Nat×Int×Nat))(hR:zds w vR rows)(U:Prts w vP ps)(dL:rows.length<=1000000)(dK:ps.length<=1000000)
 (K Rb F bo M D:Nat) (hK:K+K<100000000) (dC:K<=10000000) (cw:Jl n Rb rows) (cs:∀x∈ps,Sz F bo x.2) (HB:∀k b,qG rows (ps.take k) (List.replicate n (0,1),(0,1))= .ok b->zcV M D b)
 (b1:Rb<10000^K) (b2:F*bo<10000^K) (b3:bo<10000^K) (b4:M*D<10000^K) (b5:D<10000^K) (b6:Rb*F*bo<10000^K):
 Calls pg 196 #[vR,it .i64 (n:Nat),vP] w (MadeR n rows ps w):=by
 obtain⟨bY,dk,cv,bz⟩:=hR;obtain⟨bX,dj,cr,bx⟩:=U;obtain⟨_,_,rfl⟩:=bz.shape;obtain⟨_,_,rfl⟩:=bx.shape;simp only[zo,dk,dj]at bz bx⊢;have d1:=zi bz;have cX:=zi bx;have cZ:=zi cv;have cW:=zi cr;have cY:=zi cs;have d2:=zi cw;have c6:=zi HB;clear cs cw HB;clear bz bx cv cr;go_enter func196,ntmps196
 go_wp2_with fail
 have aP:Ext w (w.alloc (cl #[V O 0 0,G false,V O 0 0,V O 0 0] 308)):=(Ext.refl w).alloc _;have aO:=zq w (cl #[V O 0 0,G false,V O 0 0,V O 0 0] 308);have ca:=zi (fun W=>zaD W);obtain⟨i0,co,cD,cE,cF⟩:=qL Tryz.infoNum;have dh:∀W:H,(Instr.makeSlice 200 (it .i64 (n:Nat)) (it .i64 (n:Nat))).run pg W= .ok (V (E ⟨W.heap.size,0,O⟩) n n) (W.alloc (cl (madeCells #[G false,V O 0 0,V O 0 0] (n*3)) 118)):=by
  intro W;have:=run_make (P:=pg) W 200 118 i0 _ underlying200 co cD .i64 .i64 (n:Int) (n:Int) om om (by rw[cF];omega) om;rw[cE,jJ]at this;exact this
 generalize w.alloc (cl #[V O 0 0,G false,V O 0 0,V O 0 0] 308)=w0 at *;go_cut [8] (fun v8 wc=>∃a s ae,v8=pn (E ⟨a,0,O⟩)/\jk w wc w.heap.size a s (List.replicate n zT) ae/\qe wc ae.val 0 1)
 case first=>
  go_region_law (go_simp;go_at_call 69;refine(ca.out _).mono ?_;rintro a8 w1 ⟨t0,rfl,X,c⟩;obtain⟨d,h,m,l,e,g,f,rfl,bU⟩:=X.parts;have ah:=(fun(ad:Addr) hp=>c.cell (p:=ad) hp);have ai:=(fun(ad:Addr) hp=>zt (a:=ad) (c.block ad.block hp));(try(have cz:w0.heap.size<w1.heap.size:=(by have:=c.size;simp at this;omega)));(try(have dM:w0.heap.size+1<w1.heap.size:=(by have:=c.size;simp at this;omega)));go_wp2_with fail)
  ·have HZ:=zi (start1 (n:=n) (R:=⟨d,(h,m,l),(e,g,f)⟩) aP aO (Qq c) X);clear ah ai c;go_wp2_with fail
   go_meet
   exact⟨_,_,_,rfl,HZ.out⟩
  ·have HZ:=zi (start2 (n:=n) (R:=⟨d,(h,m,l),(e,g,f)⟩) aP aO (Qq c) X);clear ah ai c;go_wp2_with fail
   go_meet
   exact⟨_,_,_,rfl,HZ.out⟩
  ·have HZ:=zi (start3 (n:=n) (R:=⟨d,(h,m,l),(e,g,f)⟩) aP aO (Qq c) X);clear ah ai c;go_wp2_with fail
   go_meet
   exact⟨_,_,_,rfl,HZ.out⟩
  ·have HZ:=zi (start4 (n:=n) (R:=⟨d,(h,m,l),(e,g,f)⟩) aP aO (Qq c) X);clear ah ai c;go_wp2_with fail
   go_meet
   exact⟨_,_,_,rfl,HZ.out⟩
  ·have HZ:=zi (start5 (n:=n) (R:=⟨d,(h,m,l),(e,g,f)⟩) aP aO (Qq c) X);clear ah ai c;go_wp2_with fail
   go_meet
   exact⟨_,_,_,rfl,HZ.out⟩
  ·have HZ:=zi (start6 (n:=n) (R:=⟨d,(h,m,l),(e,g,f)⟩) aP aO (Qq c) X);clear ah ai c;go_wp2_with fail
   go_meet
   exact⟨_,_,_,rfl,HZ.out⟩
 case rest=>
  obtain⟨a,s,ae,rfl,t,aY⟩:=hcut;clear dh aP aO co cD cE cF;go_wp2_with fail
  generalize a7:w.heap.size=gr at *;go_loopw [9] (fun iv wr=>∃(i:Nat) (q:List Tri),iv=it .i64 (i:Nat)/\i<=n/\Hid (q.length=n)/\jk w wr gr a s q ae/\qe wr ae.val 0 1/\Hid (∀(j:Nat) (ak:Tri),j<i->q[j]? =E ak->qe wr ak.val 0 1)) (fun iv _=>n-(intOf iv).toNat)
  case atStart=>exact⟨0,_,rfl,om,by rw[Hid,Jd],t,aY,by intro j ak hj;omega⟩
  case round=>
   clear t aY;obtain⟨i,q,rfl,_,HL,t,aY,HZ⟩:=hrel;by_cases hi:i<n
   ·have dE:(i:Int)<(n:Int):=om;have aX:=t.ext (Ext.refl wr).drew;have dD:wr.drew.cell? ⟨a,0,O⟩=E (V (E ⟨s,0,O⟩) n n):=by rw[<-HL.out];exact aX.bg
    have bP:i<q.length:=by have:=HL.out;omega
    have ap:=zi (fun W (p:jk w W gr a s q ae)=>p.el i q[i] (zj bP));obtain⟨told,htold⟩:∃ak,ak=q[i]:=⟨_,rfl⟩;rw[<-htold]at ap;clear htold;go_wp2_with fail
    go_region_law (go_simp;go_at_call 69;refine(ca.out _).mono ?_;rintro a8 w1 ⟨t0,rfl,X,c⟩;obtain⟨d,h,m,l,e,g,f,rfl,bU⟩:=X.parts;have bs:=t.ext (Qq c);have aa:w1.cell? ⟨a,0,O⟩=E (V (E ⟨s,0,O⟩) n n):=(by rw[<-HL.out];exact bs.bg);obtain⟨e0,e1,e2,e3,e4,e5⟩:=ap.out w1 bs;go_wp2_with fail)
    all_goals
     have hx:(⟨d,(h,m,l),(e,g,f)⟩:Tri).val=ag #[G d,V h m l,V e g f]:=rfl;have U:=bs.putEl bP ⟨d,(h,m,l),(e,g,f)⟩;have A:=jS (o:=i*3) (t:=⟨d,(h,m,l),(e,g,f)⟩) bs.kg;have da:=(aY.below (Qq c)).kept A;have ba:Hid (∀(j:Nat) (ak:Tri),j<i+1->(q.set i ⟨d,(h,m,l),(e,g,f)⟩)[j]? =E ak->qe (QA w1 s (i*3) ⟨d,(h,m,l),(e,g,f)⟩) ak.val 0 1):=by
      intro j ak hj ht;by_cases bQ:j=i
      ·subst bQ;rw[jm bP]at ht;have dp:=qV ht;subst dp;exact X.kept A
      ·rw[Q7 (Qi bQ)]at ht;exact((HZ.out j ak om ht).below (Qq c)).kept A
     have cS:Hid ((q.set i ⟨d,(h,m,l),(e,g,f)⟩).length=n):=by rw[Hid,Zf];exact HL.out
     clear A c ap HZ;go_wp2_with fail
     go_roundw
    all_goals first|exact⟨i+1,_,by go_num,om,cS,U,da,ba⟩|(simp[intOf];omega)
   ·obtain rfl:i=n:=om;have y:Hid (zdg wr i q ae (List.replicate i (0,1),(0,1))):=by
     refine⟨HL.out,by rw[Jd],fun j ak an ht ha=>?_,aY⟩;have hj:j<i:=by have:=(zn.1 ha).1;rw[Jd]at this;exact this
     rw[Ju,z8 hj]at ha;have:=qV ha;subst this;exact HZ.out j ak hj ht
    clear HZ HL aY;go_wp2_with fail
    go_loopw [10] (fun kv wq=>∃(k:Nat) (q:List Tri) (ae:Tri) (b:List (Int×Nat)×(Int×Nat)),kv=it .i64 (k:Nat)/\k<=ps.length/\jk w wq gr a s q ae/\Hid (zdg wq i q ae b)/\Hid (qG rows (ps.take k) (List.replicate i (0,1),(0,1))= .ok b)) (fun kv _=>ps.length-(intOf kv).toNat)
    case atStart=>exact⟨0,q,ae,_,rfl,om,t,y,rfl⟩
    case round=>
     clear t y;obtain⟨k,q,ae,b,rfl,_,t,y,aU⟩:=hrel;have al:=Ext.of t.low;obtain⟨rb,⟨Z,a4,a5⟩,rd1,rd2,a6⟩:=ae;have o0:=t.bg;rw[y.out.lt]at o0;have o1:wr.cell? ⟨a,1,O⟩=E (G rb):=t.br.1;have o2:wr.cell? ⟨a,2,O⟩=E (V Z a4 a5):=t.br.2.1;have o3:wr.cell? ⟨a,3,O⟩=E (V rd1 rd2 a6):=t.br.2.2.1;obtain⟨s0,s1,s2,s3,sf⟩:=t.rs;have f0:=sf 0;have f1:=sf 1;have f2:=sf 2;have f3:=sf 3;by_cases A:k<ps.length
     ·have dG:(k:Int)<(ps.length:Int):=om;have aK:=zi (zmj A aU.out);have b8:=zi (zj2 A aU.out);have bv:k<bX.length:=om;obtain⟨bM,bu⟩:=cW.out k _ _ (zj bv) (zj A);obtain⟨S,T,rfl,_,ci⟩:=cX.out.at (by intro a8;rw[ZU]at a8;rw[a8]at bv;simp at bv);have aI:=ci k (bX[k].cells) (by rw[zQ,zj bv];rfl);generalize bX[k]=d4 at *;obtain⟨cn,cb,⟨aw,ax,ay⟩,ar,au,av⟩:=d4;have q0:wr.cell? ⟨S,T+k*4,O⟩=E (it .i64 (cn:Nat)):=al.cell (aI 0 _ rfl);have q1:wr.cell? ⟨S,T+k*4+1,O⟩=E (G cb):=al.cell (aI 1 _ rfl);have q2:wr.cell? ⟨S,T+k*4+2,O⟩=E (V aw ax ay):=al.cell (aI 2 _ rfl);have q3:wr.cell? ⟨S,T+k*4+3,O⟩=E (V ar au av):=al.cell (aI 3 _ rfl);have HQ:Hid (w.cell? ⟨S,T+k*4+1,O⟩=E (G cb)/\w.cell? ⟨S,T+k*4+2,O⟩=E (V aw ax ay)/\w.cell? ⟨S,T+k*4+3,O⟩=E (V ar au av)):=⟨aI 1 _ rfl,aI 2 _ rfl,aI 3 _ rfl⟩;simp only at bM;have aS:=cY.out _ (zZ A);generalize ps[k]=x at *;obtain⟨_,r,u⟩:=x;simp only at bM bu aS;subst bM;clear ci aI;by_cases aa:cn<1
      ·have hI:(cn:Int)<1:=om;have HE:Hid (qG rows ps (List.replicate i (0,1),(0,1))= .error 9):=by rw[Hid,aK.out,qG,z8 (Or.inl aa)]
       have aR:=t.low;clear aK b8;go_wp2_with fail
       exact zH (v:=tp #[ag #[V (E ⟨s,0,O⟩) i i,G rb,V Z a4 a5,V rd1 rd2 a6],it .i64 9]) (by simp[results,results196,go_sem,s0,s1,s2,s3]) rfl ⟨_,_,_,⟨rb,(Z,a4,a5),(rd1,rd2,a6)⟩,9,rfl,(((aR.setCell (Z1 a7) _).setCell (Z1 a7) _).setCell (Z1 a7) _).setCell (Z1 a7) _,by rw[HE.out]⟩
      ·by_cases de:rows.length<cn
       ·have d9:¬(cn:Int)<1:=om;have hI:(rows.length:Int)<(cn:Int):=om;have HE:Hid (qG rows ps (List.replicate i (0,1),(0,1))= .error 9):=by rw[Hid,aK.out,qG,z8 (Or.inr de)]
        have aR:=t.low;clear aK b8;go_wp2_with fail
        exact zH (v:=tp #[ag #[V (E ⟨s,0,O⟩) i i,G rb,V Z a4 a5,V rd1 rd2 a6],it .i64 9]) (by simp[results,results196,go_sem,s0,s1,s2,s3]) rfl ⟨_,_,_,⟨rb,(Z,a4,a5),(rd1,rd2,a6)⟩,9,rfl,(((aR.setCell (Z1 a7) _).setCell (Z1 a7) _).setCell (Z1 a7) _).setCell (Z1 a7) _,by rw[HE.out]⟩
       ·have d9:¬(cn:Int)<1:=om;have dB:¬(rows.length:Int)<(cn:Int):=om;have cj:qe wr (ag #[G cb,V aw ax ay,V ar au av]) r u:=bu.below al;have bW:r.natAbs<10000^K:=zr aS.num b2;have bA:u<10000^K:=zr aS.down b3;have bD:=zi (sign_any wr _ r u cj K bW);by_cases cq:r<=0
        ·have dl:r.sign<=0:=by rcases Int.lt_trichotomy r 0 with br|br|br;rw[jf br];decide;rw[br];decide;omega
         have HE:Hid (qG rows ps (List.replicate i (0,1),(0,1))= .error 10):=by rw[Hid,aK.out,qG,zW om,z8 cq]
         generalize r.sign=dy at *;clear aK b8;go_wp2_with fail
         refine bD.out.mono ?_;rintro a8 w2 ⟨rfl,bt⟩;have aW:=t.ext (Ext.of bt);have aR:=aW.low;have dr:=aW.bg;rw[y.out.lt]at dr;have dO:w2.cell? ⟨a,1,O⟩=E (G rb):=aW.br.1;have dP:w2.cell? ⟨a,2,O⟩=E (V Z a4 a5):=aW.br.2.1;have dQ:w2.cell? ⟨a,3,O⟩=E (V rd1 rd2 a6):=aW.br.2.2.1;obtain⟨bZ,c1,c2,c3,aB⟩:=aW.rs;have d5:=aB 0;have d6:=aB 1;have d7:=aB 2;have d8:=aB 3;go_wp2_with fail
         exact zH (v:=tp #[ag #[V (E ⟨s,0,O⟩) i i,G rb,V Z a4 a5,V rd1 rd2 a6],it .i64 10]) (by simp[results,results196,go_sem,bZ,c1,c2,c3]) rfl ⟨_,_,_,⟨rb,(Z,a4,a5),(rd1,rd2,a6)⟩,10,rfl,(((aR.setCell (Z1 a7) _).setCell (Z1 a7) _).setCell (Z1 a7) _).setCell (Z1 a7) _,by rw[HE.out]⟩
        ·have dl:¬r.sign<=0:=by rw[jp om];decide
         have bp:=b8.out;rw[qG,zW om,zW cq,qG]at bp;simp only at bp;have c7:=zi bp;have aZ:=c6.out k b aU.out;obtain⟨Y,rfl⟩:∃Y,cn=Y+1:=⟨cn-1,om⟩;have bT:Y<rows.length:=om;have bw:Y<bY.length:=om;obtain⟨cB,cC⟩:=cZ.out Y _ _ (zj bw) (zj bT);obtain⟨rg,bB,rfl,_,cu⟩:=d1.out.at (by intro a8;rw[ZU]at a8;rw[a8]at bw;simp at bw);have bg:=cu Y (bY[Y].cells) (by rw[zQ,zj bw];rfl);have cx:=d2.out _ (zZ bT);have ck:rows.getD (Y+1-1) ([],0)=rows[Y]:=by rw[zbI,zk,zj bT];rfl
         rw[ck]at c7;generalize bY[Y]=rt at *;generalize rows[Y]=dx at *;obtain⟨⟨ga,gl,gc⟩,tb,⟨aF,aG,aH⟩,aC,aD,aE⟩:=rt;obtain⟨gz,rz⟩:=dx;have r0:wr.cell? ⟨rg,bB+Y*4,O⟩=E (V ga gl gc):=al.cell (bg 0 _ rfl);have r1:wr.cell? ⟨rg,bB+Y*4+1,O⟩=E (G tb):=al.cell (bg 1 _ rfl);have r2:wr.cell? ⟨rg,bB+Y*4+2,O⟩=E (V aF aG aH):=al.cell (bg 2 _ rfl);have cN:wr.cell? ⟨rg,bB+Y*4+3,O⟩=E (V aC aD aE):=al.cell (bg 3 _ rfl);have dn:IntKind.i64.wrap ((Y:Int)+1-1)=(Y:Int):=by rw[Int.add_sub_cancel];exact znJ _ om om
         have dH:(Y:Int)<(rows.length:Int):=om;generalize r.sign=dy at *;clear aK b8 bp bg cu ck;go_wp2_with fail
         refine bD.out.mono ?_;rintro a8 w2 ⟨rfl,bt⟩;have x2:=Ext.of bt;have ds:=x2.cell q0;have dt:=x2.cell r0;have du:=x2.cell r1;have dv:=x2.cell r2;have dw:=x2.cell cN;go_wp2_with fail
         have x3:Ext wr (w2.alloc (cl #[V ga gl gc,G tb,V aF aG aH,V aC aD aE] 308)):=x2.alloc _;have bb:=zq w2 (cl #[V ga gl gc,G tb,V aF aG aH,V aC aD aE] 308);have cd:=t.ext x3;have c4:=zi (y.out.kept (QH.of_below x3));have di:w2.heap.size≠gr/\w2.heap.size≠a/\w2.heap.size≠s:=by have h1:=t.lt;have h2:=x2.size;omega
         have db:=al.trans x3;generalize w2.alloc (cl #[V ga gl gc,G tb,V aF aG aH,V aC aD aE] 308)=w3 at *;generalize w2.heap.size=af at *;have cT:=zi cB;have d3:=zi cC;have bq:=zi cx;have c8:=zi bu;clear ds dt du dv dw r0 r1 r2 cN q0 q1 q2 q3 bt x2 x3 bD t y al o0 o1 o2 o3 s0 s1 s2 s3 sf f0 f1 f2 f3 cB cC cj dn cx bu;go_loopw [12] (fun jv wz=>∃(j:Nat) (q:List Tri),jv=it .i64 (j:Nat)/\j<=i/\jk w wz gr a s q ⟨rb,(Z,a4,a5),(rd1,rd2,a6)⟩/\Hid (zdg wz i q ⟨rb,(Z,a4,a5),(rd1,rd2,a6)⟩ ((List.zipWith (fun an ab=>jh an (Z5 (ab,1) (r,u))) b.1 gz).take j++b.1.drop j,b.2))/\Hid (wz.heap[af]? =E (cl #[V ga gl gc,G tb,V aF aG aH,V aC aD aE] 308))) (fun jv _=>i-(intOf jv).toNat)
         case atStart=>exact⟨0,q,rfl,om,cd,c4,bb⟩
         case round=>
          clear cd c4 bb db;obtain⟨j,q,rfl,bQ,t,y,aT⟩:=hrel;have hX:=Ext.of t.low;by_cases hj:j<i
          ·have dF:(j:Int)<(i:Int):=om;have bO:gz.length=i:=bq.out.1;obtain⟨cm,cg,ao,dg,_,ch⟩:=cT.out.at3 (by rw[zo,bO];omega);rw[zo,bO]at cm;have bN:j<gz.length:=om;obtain⟨tg,cA,k0,k1,k2⟩:=ch j (gz[j],1) (by rw[zQ,zj bN];rfl);have bf:=bq.out.2.1 _ (zZ bN);obtain rfl:gl=i:=cm;obtain rfl:ga=E ⟨cg,ao,O⟩:=dg;obtain⟨gb,⟨bI,bJ,bK⟩,bF,bG,bH⟩:=tg;have cp:b.1.length=gl:=by
            have h1:=y.out.la;simp only[zX,zU,qu,Jy]at h1;omega
           obtain⟨aM,hZ⟩:∃aM,List.zipWith (fun an ab=>jh an (Z5 (ab,1) (r,u))) b.1 gz=aM:=⟨_,rfl⟩;have dd:aM.length=gl:=by rw[<-hZ,Jy];omega
           have ce:aM[j]? =E (jh (b.1[j]' om) (Z5 (gz[j],1) (r,u))):=by subst hZ;rw[List.getElem?_zipWith,zj (show j<b.1.length by omega),zj bN]
           rw[hZ]at y;have cf:=aZ.1 _ (zZ (show j<b.1.length by omega));have c5:=zi (y.out.el j (q[j]'(by rw[y.out.lt];omega)) (b.1[j]' om) (zj (by rw[y.out.lt];omega)) (by show(aM.take j++b.1.drop j)[j]? =_;rw[mix_at om,zj (show j<b.1.length by omega)]));have ap:=zi (fun W (p:jk w W gr a s q ⟨rb,(Z,a4,a5),(rd1,rd2,a6)⟩)=>p.el j (q[j]'(by rw[y.out.lt];omega)) (zj (by rw[y.out.lt];omega)));have dm:j<q.length:=by rw[y.out.lt];omega
           generalize q[j]'(by rw[y.out.lt];omega)=tj at *;generalize b.1[j]' om=aj at *;have bh:=zhD (zgG bf) aS;generalize gz[j]=zg at *;have cG:zg.natAbs<10000^K:=zr bf b1;have bL:1<10000^K:=zdc (by rintro rfl;simp at cG;have:=aS.pos;have:=bA;simp at this;omega) dc;have a0:=c_ 0 aT.out;obtain⟨v1,v2,v3⟩:=HQ.out;have HS:Hid (∀W,Ext wr W->W.cell? ⟨af,0,O⟩=E (V (E ⟨cg,ao,O⟩) gl gc)/\W.cell? ⟨cg,ao+j*3,O⟩=E (G gb)/\W.cell? ⟨cg,ao+j*3+1,O⟩=E (V bI bJ bK)/\W.cell? ⟨cg,ao+j*3+2,O⟩=E (V bF bG bH)/\W.cell? ⟨S,T+k*4+1,O⟩=E (G cb)/\W.cell? ⟨S,T+k*4+2,O⟩=E (V aw ax ay)/\W.cell? ⟨S,T+k*4+3,O⟩=E (V ar au av)):=
            fun W p=>⟨p.cell a0,p.cell (hX.cell k0),p.cell (hX.cell k1),p.cell (hX.cell k2),p.cell (hX.cell v1),p.cell (hX.cell v2),p.cell (hX.cell v3)⟩
           have b9:=zi (fun W (p:Ext wr W)=>zhy K om W (ag #[G gb,V bI bJ bK,V bF bG bH]) (ag #[G cb,V aw ax ay,V ar au av]) zg r 1 u (cA.below (hX.trans p)) (c8.out.below (hX.trans p)) cG bW bL bA);have y0:=Ext.refl wr;clear a0 v1 v2 v3 k0 k1 k2 ch cA;go_wp2_with fail
           go_cut [13] (fun dz wc=>∃a9 tm,dz=pn (E ⟨a9,0,O⟩)/\jV wc a9 0 tm/\qe wc tm.val (Z5 (zg,1) (r,u)).1 (Z5 (zg,1) (r,u)).2/\wr.heap.size<=a9/\Ext wr wc)
           case first=>
            go_region_held3 (fun W=>W.cell? ⟨af,0,O⟩=E (V (E ⟨cg,ao,O⟩) gl gc)/\W.cell? ⟨cg,ao+j*3,O⟩=E (G gb)/\W.cell? ⟨cg,ao+j*3+1,O⟩=E (V bI bJ bK)/\W.cell? ⟨cg,ao+j*3+2,O⟩=E (V bF bG bH)/\W.cell? ⟨S,T+k*4+1,O⟩=E (G cb)/\W.cell? ⟨S,T+k*4+2,O⟩=E (V aw ax ay)/\W.cell? ⟨S,T+k*4+3,O⟩=E (V ar au av)) (first|(exact HS.out _ ea)|(with_reducible exact HS.out _ (Ext.alloc xA _))|(with_reducible exact HS.out _ (y0.alloc _).drew)|(exact HS.out _ ((((Qu xA (zh _) _).setCell (zh _) _).setCell (zh _) _)))|go_keep) (first|(go_at_call 105;refine(b9.out _ (by with_reducible first|exact y0.drew|exact(y0.alloc _).drew)).mono ?_;rintro a8 wA ⟨t0,rfl,X,c⟩;obtain⟨d,h,m,l,e,g,f,rfl,bU⟩:=X.parts;have aA:=Ext.of c;have xA:Ext wr wA:=(by with_reducible first|exact y0.drew.trans aA|exact(y0.alloc _).drew.trans aA);have ah:=(fun(ad:Addr) hp=>c.cell (p:=ad) hp);have ai:=(fun(ad:Addr) hp=>zt (a:=ad) (c.block ad.block hp));(try(have cz:wr.heap.size<wA.heap.size:=(by have:=c.size;simp at this;omega)))))
            ·have aq:Hid (jV (wA.alloc (cl #[G d,V h m l,V e g f] 118)) wA.heap.size 0 ⟨d,(h,m,l),(e,g,f)⟩):=zbU (t:=⟨d,(h,m,l),(e,g,f)⟩) (zq wA _);have ba:=zi (X.alloc (cl #[G d,V h m l,V e g f] 118));have aL:=zi (xA.alloc (cl #[G d,V h m l,V e g f] 118));have bE:=zi xA.size;clear ah ai c aA HS;go_wp2_with fail
             go_meet
             exact⟨_,⟨d,(h,m,l),(e,g,f)⟩,rfl,aq.out,ba.out,bE.out,aL.out⟩
            ·have aq:=zi (zgJ (t:=⟨d,(h,m,l),(e,g,f)⟩) (Qq c) X);have aL:=zi (JA (o:=0) (t:=⟨d,(h,m,l),(e,g,f)⟩) xA (zh _));clear ah ai c aA HS;go_wp2_with fail
             go_meet
             exact⟨_,⟨d,(h,m,l),(e,g,f)⟩,rfl,aq.out.1,aq.out.2,zh _,aL.out⟩
           case rest=>
            obtain⟨a9,tm,rfl,hT,bc,df,aQ⟩:=hcut;have aN:=t.ext aQ;have aV:=y.out.kept (QH.of_below aQ);have cc:=c5.out.below aQ;have bb:=(aQ.block af (zf.1 aT.out).1).trans aT.out;have bR:(Z5 (zg,1) (r,u)).1.natAbs<10000^K:=zr bh.num (by rw[Qy];exact b6);have bS:(Z5 (zg,1) (r,u)).2<10000^K:=zr bh.down (by rw[Qy];exact b3);have bd:aj.1.natAbs<10000^K:=zr cf.num b4;have be:aj.2<10000^K:=zr cf.down b5;obtain⟨jb,⟨cK,cL,cM⟩,cH,cI,cJ⟩:=tj;obtain⟨mb,⟨bl,bm,bn⟩,bi,bj,bk⟩:=tm;have b7:=zi (fun W (p:Ext wc W)=>zeQ K hK W (ag #[G jb,V cK cL cM,V cH cI cJ]) (ag #[G mb,V bl bm bn,V bi bj bk]) aj.1 (Z5 (zg,1) (r,u)).1 aj.2 (Z5 (zg,1) (r,u)).2 (cc.below p) (bc.below p) bd bR be bS);have aX:=aN.ext (Ext.refl wc).drew;have o0:wc.drew.cell? ⟨a,0,O⟩=E (V (E ⟨s,0,O⟩) gl gl):=by have h1:=aX.bg;rw[aV.lt]at h1;exact h1
            have l0:wc.drew.cell? ⟨s,j*3,O⟩=E (G jb):=(ap.out _ aX).1;have l1:wc.drew.cell? ⟨s,j*3+1,O⟩=E (V cK cL cM):=(ap.out _ aX).2.1;have l2:wc.drew.cell? ⟨s,j*3+2,O⟩=E (V cH cI cJ):=(ap.out _ aX).2.2.1;have n0:wc.drew.cell? ⟨a9,0,O⟩=E (G mb):=hT.1;have dq:wc.drew.cell? ⟨a9,1,O⟩=E (V bl bm bn):=hT.2.1;have n2:wc.drew.cell? ⟨a9,2,O⟩=E (V bi bj bk):=hT.2.2.1;clear b9 HS cc c5 bc hT;go_wp2_with fail
            go_region_law (go_simp;go_at_call 103;refine(b7.out _ (by with_reducible exact(Ext.refl wc).drew)).mono ?_;rintro a8 B ⟨t1,rfl,aJ,aa⟩;obtain⟨C,I,L,J,N,R,Q,rfl,ct⟩:=aJ.parts;have z:=aN.ext (Qq aa);have oB:B.cell? ⟨a,0,O⟩=E (V (E ⟨s,0,O⟩) gl gl):=(by have h1:=z.bg;rw[aV.lt]at h1;exact h1);obtain⟨e0,e1,e2,e3,e4,e5⟩:=ap.out B z;go_wp2_with fail)
            all_goals
             have U:=z.putEl dm ⟨C,(I,L,J),(N,R,Q)⟩;have A:=jS (o:=j*3) (t:=⟨C,(I,L,J),(N,R,Q)⟩) z.kg;have bC:Hid (zdg (QA B s (j*3) ⟨C,(I,L,J),(N,R,Q)⟩) gl (q.set j ⟨C,(I,L,J),(N,R,Q)⟩) ⟨rb,(Z,a4,a5),(rd1,rd2,a6)⟩ ((List.zipWith (fun an ab=>jh an (Z5 (ab,1) (r,u))) b.1 gz).take (j+1)++b.1.drop (j+1),b.2)):=by
              rw[Hid,hZ];exact(aV.kept (QH.of_below (Qq aa))).put A ce dd cp (aJ.kept A)
             have cP:Hid ((QA B s (j*3) ⟨C,(I,L,J),(N,R,Q)⟩).heap[af]? =E (cl #[V (E ⟨cg,ao,O⟩) gl gc,G tb,V aF aG aH,V aC aD aE] 308)):=(JT di.2.2).trans (((Qq aa).block af (zf.1 bb).1).trans bb);clear A aa ap ce b7;go_wp2_with fail
             go_roundw
            all_goals first|exact⟨j+1,_,by go_num,om,U,bC,cP⟩|(simp[intOf];omega)
          ·obtain rfl:j=i:=om;have bO:gz.length=j:=bq.out.1;have cp:b.1.length=j:=by
            have h1:=y.out.la;simp only[zX,zU,qu,Jy]at h1;omega
           have bC:Hid (zdg wr j q ⟨rb,(Z,a4,a5),(rd1,rd2,a6)⟩ (List.zipWith (fun an ab=>jh an (Z5 (ab,1) (r,u))) b.1 gz,b.2)):=by
            have h1:=y.out;rw[zy (by rw[Jy];omega),zcf om,Q1]at h1;exact h1
           clear y;generalize List.zipWith (fun an ab=>jh an (Z5 (ab,1) (r,u))) b.1 gz=aM at *;have bf:=bq.out.2.2;have bh:=zhD (zgG bf) aS;have cy:rz.natAbs<10000^K:=zr bf b1;have bL:1<10000^K:=zdc (by rintro rfl;simp at cy;have:=aS.pos;have:=bA;simp at this;omega) dc;have a1:=c_ 1 aT.out;have a2:=c_ 2 aT.out;have a3:=c_ 3 aT.out;obtain⟨v1,v2,v3⟩:=HQ.out;have HS:Hid (∀W,Ext wr W->W.cell? ⟨af,1,O⟩=E (G tb)/\W.cell? ⟨af,2,O⟩=E (V aF aG aH)/\W.cell? ⟨af,3,O⟩=E (V aC aD aE)/\W.cell? ⟨S,T+k*4+1,O⟩=E (G cb)/\W.cell? ⟨S,T+k*4+2,O⟩=E (V aw ax ay)/\W.cell? ⟨S,T+k*4+3,O⟩=E (V ar au av)):=
            fun W p=>⟨p.cell a1,p.cell a2,p.cell a3,p.cell (hX.cell v1),p.cell (hX.cell v2),p.cell (hX.cell v3)⟩
           have b9:=zi (fun W (p:Ext wr W)=>zhy K om W (ag #[G tb,V aF aG aH,V aC aD aE]) (ag #[G cb,V aw ax ay,V ar au av]) rz r 1 u (d3.out.below (hX.trans p)) (c8.out.below (hX.trans p)) cy bW bL bA);have y0:=Ext.refl wr;clear a1 a2 a3 v1 v2 v3;go_wp2_with fail
           go_cut [14] (fun dA wc=>∃a9 tm,dA=pn (E ⟨a9,0,O⟩)/\jV wc a9 0 tm/\qe wc tm.val (Z5 (rz,1) (r,u)).1 (Z5 (rz,1) (r,u)).2/\wr.heap.size<=a9/\Ext wr wc)
           case first=>
            go_region_held3 (fun W=>W.cell? ⟨af,1,O⟩=E (G tb)/\W.cell? ⟨af,2,O⟩=E (V aF aG aH)/\W.cell? ⟨af,3,O⟩=E (V aC aD aE)/\W.cell? ⟨S,T+k*4+1,O⟩=E (G cb)/\W.cell? ⟨S,T+k*4+2,O⟩=E (V aw ax ay)/\W.cell? ⟨S,T+k*4+3,O⟩=E (V ar au av)) (first|(exact HS.out _ ea)|(with_reducible exact HS.out _ (Ext.alloc xA _))|(with_reducible exact HS.out _ (y0.alloc _).drew)|(exact HS.out _ ((((Qu xA (zh _) _).setCell (zh _) _).setCell (zh _) _)))|go_keep) (first|(go_at_call 105;refine(b9.out _ (by with_reducible first|exact y0.drew|exact(y0.alloc _).drew)).mono ?_;rintro a8 wA ⟨t0,rfl,X,c⟩;obtain⟨d,h,m,l,e,g,f,rfl,bU⟩:=X.parts;have aA:=Ext.of c;have xA:Ext wr wA:=(by with_reducible first|exact y0.drew.trans aA|exact(y0.alloc _).drew.trans aA);have ah:=(fun(ad:Addr) hp=>c.cell (p:=ad) hp);have ai:=(fun(ad:Addr) hp=>zt (a:=ad) (c.block ad.block hp));(try(have cz:wr.heap.size<wA.heap.size:=(by have:=c.size;simp at this;omega)))))
            ·have aq:Hid (jV (wA.alloc (cl #[G d,V h m l,V e g f] 118)) wA.heap.size 0 ⟨d,(h,m,l),(e,g,f)⟩):=zbU (t:=⟨d,(h,m,l),(e,g,f)⟩) (zq wA _);have ba:=zi (X.alloc (cl #[G d,V h m l,V e g f] 118));have aL:=zi (xA.alloc (cl #[G d,V h m l,V e g f] 118));have bE:=zi xA.size;clear ah ai c aA HS;go_wp2_with fail
             go_meet
             exact⟨_,⟨d,(h,m,l),(e,g,f)⟩,rfl,aq.out,ba.out,bE.out,aL.out⟩
            ·have aq:=zi (zgJ (t:=⟨d,(h,m,l),(e,g,f)⟩) (Qq c) X);have aL:=zi (JA (o:=0) (t:=⟨d,(h,m,l),(e,g,f)⟩) xA (zh _));clear ah ai c aA HS;go_wp2_with fail
             go_meet
             exact⟨_,⟨d,(h,m,l),(e,g,f)⟩,rfl,aq.out.1,aq.out.2,zh _,aL.out⟩
           case rest=>
            obtain⟨a9,tm,rfl,hT,bc,df,aQ⟩:=hcut;have aN:=t.ext aQ;have aV:=bC.out.kept (QH.of_below aQ);have bR:(Z5 (rz,1) (r,u)).1.natAbs<10000^K:=zr bh.num (by rw[Qy];exact b6);have bS:(Z5 (rz,1) (r,u)).2<10000^K:=zr bh.down (by rw[Qy];exact b3);have bd:b.2.1.natAbs<10000^K:=zr aZ.2.num b4;have be:b.2.2<10000^K:=zr aZ.2.down b5;obtain⟨mb,⟨bl,bm,bn⟩,bi,bj,bk⟩:=tm;have b7:=zi (fun W (p:Ext wc W)=>zeQ K hK W (ag #[G rb,V Z a4 a5,V rd1 rd2 a6]) (ag #[G mb,V bl bm bn,V bi bj bk]) b.2.1 (Z5 (rz,1) (r,u)).1 b.2.2 (Z5 (rz,1) (r,u)).2 (aV.r.below p) (bc.below p) bd bR be bS);have l0:wc.cell? ⟨a,1,O⟩=E (G rb):=aN.br.1;have l1:wc.cell? ⟨a,2,O⟩=E (V Z a4 a5):=aN.br.2.1;have l2:wc.cell? ⟨a,3,O⟩=E (V rd1 rd2 a6):=aN.br.2.2.1;have n0:wc.cell? ⟨a9,0,O⟩=E (G mb):=hT.1;have dq:wc.cell? ⟨a9,1,O⟩=E (V bl bm bn):=hT.2.1;have n2:wc.cell? ⟨a9,2,O⟩=E (V bi bj bk):=hT.2.2.1;clear b9 HS bc hT;go_wp2_with fail
            refine(b7.out _ (Ext.refl wc)).mono ?_;rintro a8 B ⟨t1,rfl,aJ,aa⟩;obtain⟨C,I,L,J,N,R,Q,rfl,ct⟩:=aJ.parts;have z:=aN.ext (Ext.of aa);have e0:B.cell? ⟨a,1,O⟩=E (G rb):=z.br.1;have e1:B.cell? ⟨a,2,O⟩=E (V Z a4 a5):=z.br.2.1;have e2:B.cell? ⟨a,3,O⟩=E (V rd1 rd2 a6):=z.br.2.2.1;have e3:B.frozen? ⟨a,1,O⟩=false:=z.br.2.2.2.1;have e4:B.frozen? ⟨a,2,O⟩=false:=z.br.2.2.2.2.1;have e5:B.frozen? ⟨a,3,O⟩=false:=z.br.2.2.2.2.2;have U:=z.putR ⟨C,(I,L,J),(N,R,Q)⟩;have A:=jS (o:=1) (t:=⟨C,(I,L,J),(N,R,Q)⟩) z.ko;have az:=(aV.kept (QH.of_below aa)).kept A;have cO:Hid (zdg (QA B a 1 ⟨C,(I,L,J),(N,R,Q)⟩) j q ⟨C,(I,L,J),(N,R,Q)⟩ (aM,jh b.2 (Z5 (rz,1) (r,u)))):=⟨az.lt,az.la,az.el,aJ.kept A⟩;clear A aa az b7;go_wp2_with fail
            go_roundw
            case rel=>exact⟨k+1,q,_,_,by go_num,om,U,cO,c7⟩
            case measure=>simp[intOf];omega
     ·obtain rfl:k=ps.length:=om;have cQ:Hid (qG rows ps (List.replicate i (0,1),(0,1))= .ok b):=by
       have h1:=aU.out;rw[Zw]at h1;exact h1
      have aZ:=c6.out _ b aU.out;have bd:b.2.1.natAbs<10000^K:=zr aZ.2.num b4;have be:b.2.2<10000^K:=zr aZ.2.down b5;have c9:=zi (floor_any K om wr (ag #[G rb,V Z a4 a5,V rd1 rd2 a6]) b.2.1 b.2.2 y.out.r bd be);clear aU;go_wp2_with fail
      refine c9.out.mono ?_;rintro a8 B ⟨t1,rfl,aJ,aa⟩;obtain⟨C,I,L,J,N,R,Q,rfl,ct⟩:=aJ.parts;have z:=t.ext (Ext.of aa);have e0:B.cell? ⟨a,1,O⟩=E (G rb):=z.br.1;have e1:B.cell? ⟨a,2,O⟩=E (V Z a4 a5):=z.br.2.1;have e2:B.cell? ⟨a,3,O⟩=E (V rd1 rd2 a6):=z.br.2.2.1;have e3:B.frozen? ⟨a,1,O⟩=false:=z.br.2.2.2.1;have e4:B.frozen? ⟨a,2,O⟩=false:=z.br.2.2.2.2.1;have e5:B.frozen? ⟨a,3,O⟩=false:=z.br.2.2.2.2.2;have U:=z.putR ⟨C,(I,L,J),(N,R,Q)⟩;have A:=jS (o:=1) (t:=⟨C,(I,L,J),(N,R,Q)⟩) z.ko;have az:=(y.out.kept (QH.of_below aa)).kept A;have bV:=aJ.kept A;obtain⟨w5,hw5⟩:∃w5,QA B a 1 ⟨C,(I,L,J),(N,R,Q)⟩=w5:=⟨_,rfl⟩;rw[hw5]at U az bV;have dN:((B.setCell ⟨a,1,O⟩ (G C)).setCell ⟨a,2,O⟩ (V I L J)).setCell ⟨a,3,O⟩ (V N R Q)=w5:=hw5;have p0:=U.bg;rw[az.lt]at p0;have p1:w5.cell? ⟨a,1,O⟩=E (G C):=U.br.1;have p2:w5.cell? ⟨a,2,O⟩=E (V I L J):=U.br.2.1;have p3:w5.cell? ⟨a,3,O⟩=E (V N R Q):=U.br.2.2.1;obtain⟨bZ,c1,c2,c3,aB⟩:=U.rs;have d5:=aB 0;have d6:=aB 1;have d7:=aB 2;have d8:=aB 3;have aR:=U.low;have cR:Hid (∀ab,(V (E ⟨s,0,O⟩) i i).ownBlock=E ab->w.heap.size<=ab):=fun ab hg=>by
       have a8:s=ab:=by simpa[Value.ownBlock]using hg
       have h1:=U.lt;omega
      have cU:Hid (Qj ((((w5.setCell ⟨gr,0,O⟩ (V (E ⟨s,0,O⟩) i i)).setCell ⟨gr,1,O⟩ (G C)).setCell ⟨gr,2,O⟩ (V I L J)).setCell ⟨gr,3,O⟩ (V N R Q)) (V (E ⟨s,0,O⟩) i i) b.1):=zmk U az _ _ _ _;have cV:=zi (zbT bV U.kr (V (E ⟨s,0,O⟩) i i) (G C) (V I L J) (V N R Q));clear A aa az c9 hw5 bV;go_wp2_with fail
      exact zH (v:=tp #[ag #[V (E ⟨s,0,O⟩) i i,G C,V I L J,V N R Q],it .i64 0]) (by simp[results,results196,go_sem,bZ,c1,c2,c3]) rfl ⟨_,_,_,⟨C,(I,L,J),(N,R,Q)⟩,0,rfl,(((aR.setCell (Z1 a7) _).setCell (Z1 a7) _).setCell (Z1 a7) _).setCell (Z1 a7) _,by rw[cQ.out];exact⟨rfl,cU.out,cV.out,cR.out⟩⟩
end Go.Proofs.YtnhfdcfnojnofaaGreatDoor.T
