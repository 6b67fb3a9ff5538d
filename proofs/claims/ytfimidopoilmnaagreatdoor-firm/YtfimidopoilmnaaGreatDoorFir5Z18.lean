import Derived.Test.YtfimidopoilmnaaGreatDoorFir5Z17
open Option renaming none->O,some->E
open Go.Value renaming slice->V,bool->G,string->gS,pointer->pn,tuple->tp,int->it,agg->ag
open Go.Obj renaming cells->cl
open Go renaming World->H
open Go.Proofs.Tryz renaming prog->pg
open Go.Proofs.Tryz
open Go.Ending renaming returned->Xa
open Go.IntKind renaming i64->Xb
open Go.Addr renaming mk->Xd
set_option linter.unusedSimpArgs false
set_option linter.unusedVariables false
set_option maxHeartbeats 8000000
set_option maxRecDepth 100000
namespace Go.Proofs.YtfimidopoilmnaaGreatDoor
section
open Go.RowKit
variable {j:Nat}{v:Value}{w:H}
theorem zpF:(Tryz.prog.info? 3).map (fun i=>(i.zero,i.size,i.bytes))=E (E (it Xb 0),1,8):=kr
def intC (z:Int):List Value:= [it Xb z]
theorem zse{B:Nat}{zs:List Int}(h:Grw B 3 1 w v (zs.map intC)):Jf w v zs:=by
 rcases h.list with ⟨rfl,e⟩|⟨g,off,b,a,_,c,d⟩
 ·have:zs= []:=by simpa using e
  subst this;exact⟨O,0,rfl,fun h=>by simp at h⟩
 ·rw[zm]at a;refine⟨_,b,a,fun _=>⟨g,off,rfl,c.lt,fun i z a=>?_⟩⟩;have:=d i (intC z) (by rw[zR,a];rfl) 0 (it Xb z) rfl;simpa using this
theorem zpG(w:H)(a:Option Addr)(n c:Nat):(binOp .eql 38 (V a n c) (V O 0 0)).run pg w= .ok (G a.isNone) w:=zbs w _ _ a n c 0 0 underlying38
def BestV (w:H)(v:Value):Option (List Int)->Prop
 |none=>v=V O 0 0
 |some y=>Jf w v y
theorem BestV.ext{w':H}{b:Option (List Int)}(h:BestV w v b)(a:Ext w w'):BestV w' v b:=by
 cases b with
 |none=>exact h
 |some y=>exact Jf.ext h a
theorem zpH:∀(lo:List Int) (k i:Nat) (l:Int),lo[i]? =E l->ptK lo k=(ptK lo k).take i++((l+((k/8^i%8:Nat):Int))::ptK (lo.drop (i+1)) (k/8^(i+1)))
 |[],_,_,_,h=>by simp at h
 |a::lo,k,0,l,h=>by
  simp at h;subst h;simp[ptK]
 |a::lo,k,i+1,l,h=>by
  have b:=zpH lo (k/8) i l (by simpa using h);have c:k/8/8^i=k/8^(i+1):=by rw[zc9,Zv,Z5]
  have d:k/8/8^(i+1)=k/8^(i+1+1):=by rw[zc9,Zv 8 (i+1),Z5]
  rw[c,d]at b;simp only[ptK,zaN,ZZ,List.drop_succ_cons,za5,true_and];exact b
theorem zrr(lo:List Int)(k i:Nat)(l:Int)(h:lo[i]? =E l):(ptK lo k).take (i+1)=(ptK lo k).take i ++ [l+((k/8^i%8:Nat):Int)]:=by
 have a:i<(ptK lo k).length:=by rw[zaz];exact(zo.1 h).1
 have a:=zpH lo k i l h;have b:(ptK lo k)[i]? =E (l+((k/8^i%8:Nat):Int)):=by
  rw[a,zG (by rw[zX];omega),zX];have:i-min i (ptK lo k).length=0:=om;rw[this];rfl
 rw[ZB,b];rfl
theorem zgs{lo:List Int}(h:∀z∈lo,z.natAbs<=99):∀k,Zu 1000000 (ptK lo k):=by
 induction lo with
 |nil=>intro k z a;simp[ptK]at a
 |cons b lo c=>
  intro k z a;rw[ptK]at a;rcases zI.1 a with rfl|a
  ·have:=h b qA;have b:k%8<8:=Z0 _ dc;unfold Lim;omega
  ·exact c (fun z a=>h z (qq _ a)) (k/8) z a
theorem zmg(w:H)(y R Q P Y X:Value)(mx lo o:List Int)(C:List (List Int))(I rs:List Int)(d:zc7 w y R Q P Y X mx lo o C I rs)(p:zai mx lo o C I rs):
 Calls pg 21 #[ag #[y,R,Q,P,Y,X]] w fun e w'=>∃(v:Value) (b:Option (List Int)),e=Xa v/\za8 mx lo o C I rs (8^mx.length) b/\BestV w' v b/\Below w.heap.size w w':=by
 obtain⟨i0,aX,b6,b7,b8⟩:=Zn zpF;have bg:=zpG;have aZ:∀an:Prop,Hid an->an:=fun an h=>h
 obtain⟨n0,x0⟩:=new1 w (cl #[y,R,Q,P,Y,X] 41);have bl:=p.n1;have b9:=p.n3;have a1:∀k,(ptK lo k).length=mx.length:=fun k=>by rw[zaz,p.ll]
 have ad:=zf a1;have a6:Hid (∀W,Ext w W->∀(v:Value) (j:Nat),Jf W v (ptK lo j)->Calls pg 24 #[y,v] W fun e w'=>e=Xa (it Xb (T.dotZ mx (ptK lo j)))/\Below W.heap.size W w'):=fun W c v j o=>zeW W y v mx (ptK lo j) (d.m.ext c) o (a1 j).symm om (zkg p.bm dc) (zgs p.bl j)
 have ab:Hid (∀W,Ext w W->∀(v:Value) (j:Nat),Jf W v (ptK lo j)->Calls pg 33 #[ag #[y,R,Q,P,Y,X],v] W fun e w'=>e=Xa (G (zcJ lo o C I rs (ptK lo j)))/\Below W.heap.size W w'):=fun W c v j o=>zlf W y R Q P Y X v mx lo _ C I rs (ptK lo j) (d.ext c) p o (a1 j) (zgs p.bl j)
 have a9:Hid (∀W,Ext w W->∀(N v:Value) (i j:Nat),Jf W N (ptK lo i)->Jf W v (ptK lo j)->Calls pg 34 #[ag #[y,R,Q,P,Y,X],N,v] W fun e w'=>e=Xa (G (za6 mx (ptK lo i) (ptK lo j)))/\Below W.heap.size W w'):=fun W c N v i j h1 h2=>zk8 W y R Q P Y X N v mx (ptK lo i) (ptK lo j) (d.m.ext c) h1 h2 (a1 i) (a1 j) om
 have aa:=zf p.ll;have aQ:=zf p.bl;obtain⟨_,mc,rfl,aM⟩:=d.m;obtain⟨_,_,rfl,ai⟩:=d.l;obtain⟨_,_,rfl,-⟩:=d.h;obtain⟨_,_,rfl,-⟩:=d.g;obtain⟨_,_,rfl,-⟩:=d.s;obtain⟨_,_,rfl,-⟩:=d.r;rw[p.ll]at ai n0 x0 ab a9⊢;obtain⟨_,_,rfl,-,aI⟩:=ai om;have aS:=zf aI;obtain⟨gM,oM,rfl,-,-⟩:=aM om;clear aI;obtain⟨hil,hHl⟩:∃h,h=o.length:=⟨_,rfl⟩;obtain⟨gsl,hGl⟩:∃h,h=C.length:=⟨_,rfl⟩;obtain⟨ssl,hSl⟩:∃h,h=I.length:=⟨_,rfl⟩;obtain⟨rsl,hRl⟩:∃h,h=rs.length:=⟨_,rfl⟩;rw[<-hHl,<-hGl,<-hSl,<-hRl]at n0 x0 ab a9⊢;clear hHl hGl hSl hRl d p aM ai a1;go_enter func21,ntmps21
 go_wp2;generalize World.alloc _ _=w0 at *;go_loopw [5,6] (fun av iv wr=>∃(i s:Nat),i<=mx.length/\av=it Xb (s:Nat)/\iv=it Xb (i:Nat)/\Hid (s=8^i)/\Ext w0 wr) (fun _ iv _=>((mx.length:Int)-intOf iv).toNat)
 case atStart=>exact⟨0,1,om,rfl,rfl,rfl,Xe _⟩
 case round=>
  obtain⟨i,s,_,rfl,rfl,HA,xr⟩:=hrel;by_cases be:i<mx.length
  ·have bc:s<=64:=by
    rw[HA.out];exact zF (ZD dc (show i<=2 by omega)) dc
   go_wp2;go_roundw
   case rel=>exact⟨i+1,s*8,om,by go_num,by go_num,by rw[Hid,HA.out,Zv],xr⟩
   case measure=>simp[intOf];omega
  ·obtain rfl:i=mx.length:=om;have bb:s<=512:=by
    rw[HA.out];exact zF (ZD dc b9) dc
   go_wp2;go_loopw [3,7] (fun bv kv aO=>∃(k:Nat) (b:Option (List Int)),k<=s/\kv=it Xb (k:Nat)/\Hid (za8 mx lo o C I rs k b)/\Hid (BestV aO bv b)/\Ext w0 aO) (fun _ kv _=>((s:Int)-intOf kv).toNat)
   case atStart=>exact⟨0,O,om,rfl,fun j hj=>om,rfl,xr⟩
   case round=>
    obtain⟨k,b,_,rfl,q,HV,l⟩:=hrel;by_cases bf:k<s
    ·go_wp2;go_loopw [8,9,10] (fun xv rv jv wi=>∃(j r:Nat),j<=mx.length/\rv=it Xb (r:Nat)/\jv=it Xb (j:Nat)/\Hid (r=k/8^j)/\r<=512/\Hid (Grw wr.heap.size 3 1 wi xv (((ptK lo k).take j).map intC))/\Ext wr wi) (fun _ _ jv _=>((mx.length:Int)-intOf jv).toNat)
     case atStart=>exact⟨0,k,om,rfl,rfl,by simp[Hid],om,Xr _ _ _ _,Xe _⟩
     case round=>
      obtain⟨j,r,_,rfl,rfl,ae,_,z,a⟩:=hrel;have Z:=x0.trans (l.trans a);obtain⟨xs,hxs⟩:∃xs,xs=(ptK lo k).take j:=⟨_,rfl⟩;have a4:(xs.map intC).length=j:=by rw[hxs,zm,zX,ad.out];omega
      rw[<-hxs]at z;have az:=zf hxs;clear hxs;obtain⟨va,vc,d⟩:=z.out.shape;rw[a4]at d;subst d;by_cases aY:j<mx.length
      ·have aK:j<lo.length:=by rw[aa.out];exact aY
       have e1:=zg aK;have c1:=Z.cell (aS.out j _ e1);obtain⟨-,b1,-,-,-,-⟩:=za9 n0 (l.trans a);have bd:=aQ.out _ (zx e1);have ay:=zf (zrr lo k j _ e1);rw[<-ae.out,<-az.out]at ay;generalize lo[j]=L at *;have x3:Ext wr (wr.alloc (cl #[it Xb (L+(r:Int)%8)] 3)):=(Xe wr).alloc _;have aj:=(z.out.ext x3).own;rw[a4]at aj;have aJ:=(z.out.ext x3).dig;have bj:=a.size;clear e1 aK;go_wp2_with (at_builtin;refine aZ _ ?_)
       unfold Hid;refine JI _ rfl _ _ 38 rfl _ 3 i0 (it Xb 0) 1 8 underlying38 aX b6 b7 b8 rfl dc (V va j vc) j _ rfl aj ⟨wr.heap.size,0,O⟩ 1 1 [it Xb (L+(r:Int)%8)] rfl rfl (rec_new wr [it Xb (L+(r:Int)%8)] 3) (by intro N D;simp only[zI,zY,Zp]at D;subst D;rfl) om mo om so (wr.heap.size+1) sp (by intro N D;simp[Value.cells]at D;subst D;intro n e;cases e) (by intro N D;simp only[zI,zY,Zp]at D;subst D;intro n e;cases e) aJ ?_;intro g4 ba A4 al aB aU lt4 aA;rw[<-a4]at al;have a5:=(z.out.ext x3).more (cs:=intC (L+(r:Int)%8)) rfl al aA;rw[a4]at a5;have e8:L+(r:Int)%8=L+((r%8:Nat):Int):=om;have aL:xs.map intC ++ [intC (L+(r:Int)%8)]=((ptK lo k).take (j+1)).map intC:=by rw[ay.out,Z6,<-e8];rfl
       rw[aL]at a5;have aR:=zf a5;have B:=zf (zna (a.trans x3) (Qh (U:=fun b=>(V va j vc).ownBlock=E b) aB (fun b hb=>hb)) (fun b hb=>(z.out.type b hb).2));have aT:Hid (r/8=k/8^(j+1)):=by rw[Hid,ae.out,zc9,Zv]
       clear al a5 aB aU lt4 aA aj aJ e8 aL;go_wp2;go_roundw
       case rel=>exact⟨j+1,r/8,om,by go_num,by go_num,aT,om,aR,B.out⟩
       case measure=>simp[intOf];omega
      ·obtain rfl:j=mx.length:=om;have hX:=zse z.out;rw[az.out,zP (by rw[ad.out];omega)]at hX;have B:Hid (∀W,Ext wr W->Jf W (V va mx.length vc) (ptK lo k)):=fun W c=>hX.ext c
       have a2:=zf (fun W (c:Ext wr W)=>HV.out.ext (a.trans c));have ax:=zf (ab.out wr Z _ k hX);obtain⟨b0,b1,_,_,_,_⟩:=za9 n0 (l.trans a);clear hX HV z a4 ae;go_wp2_with fail
       refine ax.out.mono ?_;rintro e w2 ⟨rfl,aC⟩;have y2:=Xh aC;clear aC ax;cases hmb:zcJ lo o C I rs (ptK lo k)with
       |false=>
        have m:=zf (q.out.skip (fun h=>by rw[zfW.2 h]at hmb;cases hmb));clear q hmb;go_wp2;go_roundw
        case rel=>exact⟨k+1,b,om,by go_num,m,a2.out _ y2,(l.trans a).trans y2⟩
        case measure=>simp[intOf];omega
       |true=>
        have hm:=zfW.1 hmb;clear hmb;have K:Hid (∀W,Ext wr W->W.cell? (Xd w.heap.size 0 O)=E (V (E (Xd gM oM O)) mx.length mc)):=fun W c=>(za9 n0 ((l.trans a).trans c)).1
        have aw:Hid (mx.length<=4):=by rw[Hid];omega
        cases b with
        |none=>
         have aV:_=V O 0 0:=a2.out wr (Xe _);subst aV;have m:=zf (q.out.first aa.out aw.out hm);clear q a2 hm;go_wp2;refine ZO (S:=fun W=>W.cell? (Xd w.heap.size 0 O)=E (V (E (Xd gM oM O)) mx.length mc)) kr (K.out _ y2.drew) (fun f=>?_);refine tkl [0,1,2,3,4,5,6,7,8,9,10,11,12] ?_;refine zV kr ?_ _;clear f;go_wp2;go_roundw
         case rel=>exact⟨k+1,E (ptK lo k),om,by go_num,m,B.out _ y2.drew,((l.trans a).trans y2).drew⟩
         case measure=>simp[intOf];omega
        |some bn=>
         obtain⟨F,hy⟩:=q.out.2.1;subst hy;have hY:Jf wr _ (ptK lo F):=a2.out wr (Xe _);have HY:=zf (fun W (c:Ext wr W)=>hY.ext c);obtain⟨_,_,aN,ak⟩:=hY;rw[ad.out]at aN ak;obtain⟨_,_,rfl,-,-⟩:=ak om;subst aN;obtain⟨dx,hdx⟩:∃a3,a3=T.dotZ mx (ptK lo k):=⟨_,rfl⟩;obtain⟨dy,hdy⟩:∃a3,a3=T.dotZ mx (ptK lo F):=⟨_,rfl⟩;have ar:=zf hdx;have au:=zf hdy;have u:=zf (fun h=>q.out.take aa.out aw.out hm h);have t:=zf (fun h=>q.out.stay h);unfold zci at u t;rw[<-hdx,<-hdy]at u t;clear q a2 hm ak hdx hdy;have ao:=y2.drew;go_wp2;refine ZO (S:=fun W=>W.cell? (Xd w.heap.size 0 O)=E (V (E (Xd gM oM O)) mx.length mc)) kr (K.out _ y2.drew) (fun f=>?_);refine tkl [0,1,2,3,4,5,7,8,9] ?_;refine rcl 6 (a6.out _ (Z.trans ao) _ k (B.out _ ao)) ?_;rintro e w3 ⟨rfl,aD⟩;have a7:=ao.trans (Xh aD);rw[<-ar.out];refine bk (K.out _ a7) fun f=>?_
         clear aD;refine rcl 10 (a6.out _ (Z.trans a7) _ F (HY.out _ a7)) ?_;rintro e w4 ⟨rfl,aE⟩;have J:=a7.trans (Xh aE);rw[<-au.out];refine bk (K.out _ J) fun f=>?_
         clear aE;by_cases aW:dy<dx
         ·have m:=zf (u.out (.inl aW));clear u t;refine tkl [11,12] ?_;refine zV kr ?_ _;clear f;go_wp2;go_roundw
          case rel=>exact⟨k+1,E (ptK lo k),om,by go_num,m,B.out _ J,(l.trans a).trans J⟩
          case measure=>simp[intOf];omega
         ·obtain⟨q0,q1,q2,q3,q4,q5⟩:=za9 n0 ((l.trans a).trans J);refine tkl [11,12] ?_;refine zV kr ?_ _;clear f;have aq:=zf (a9.out _ (Z.trans J) _ _ k F (B.out _ J) (HY.out _ J));go_wp2_with fail
          refine aq.out.mono ?_;rintro e w5 ⟨rfl,aF⟩;have aP:=J.trans (Xh aF);have ap:=aP.drew;obtain⟨ah,hah⟩:∃a3,a3=za6 mx (ptK lo k) (ptK lo F):=⟨_,rfl⟩;rw[<-hah]at u t⊢;clear aF q0 q1 q2 q3 q4 q5 hah aq;go_wp2;refine ZO (S:=fun W=>W.cell? (Xd w.heap.size 0 O)=E (V (E (Xd gM oM O)) mx.length mc)) kr (K.out _ aP.drew) (fun f=>?_);refine tkl [0,1,2,4,5,6] ?_;refine rcl 3 (a6.out _ (Z.trans ap) _ k (B.out _ ap)) ?_;rintro e w6 ⟨rfl,aG⟩;have a8:=ap.trans (Xh aG);rw[<-ar.out];refine bk (K.out _ a8) fun f=>?_
          clear aG;refine rcl 7 (a6.out _ (Z.trans a8) _ F (HY.out _ a8)) ?_;rintro e w7 ⟨rfl,aH⟩;have a0:=a8.trans (Xh aH);rw[<-au.out];refine bk (K.out _ a0) fun f=>?_
          clear aH;by_cases af:dx=dy
          ·cases ah with
           |true=>
            have m:=zf (u.out (.inr ⟨af,rfl⟩));clear u t;refine tkl [8,9,10,11] ?_;refine zV kr ?_ _;clear f;go_wp2;go_roundw
            case rel=>exact⟨k+1,E (ptK lo k),om,by go_num,m,B.out _ a0,(l.trans a).trans a0⟩
            case measure=>simp[intOf];omega
           |false=>
            have m:=zf (t.out (fun h=>by rcases h with h|⟨-,h⟩;omega;cases h));clear u t;refine tkl [8,9,10,11] ?_;refine zV kr ?_ _;clear f;go_wp2;go_roundw
            case rel=>exact⟨k+1,E (ptK lo F),om,by go_num,m,HY.out _ a0,(l.trans a).trans a0⟩
            case measure=>simp[intOf];omega
          ·have m:=zf (t.out (fun h=>by rcases h with h|⟨h,-⟩<;>omega));have bh:(dx == dy)=false:=by simp[af]
           have bi:decide (dx=dy)=false:=J2 af;clear u t;refine tkl [8,9,10,11] ?_;refine zV kr ?_ _;clear f;go_wp2;go_roundw
           case rel=>exact⟨k+1,E (ptK lo F),om,by go_num,m,HY.out _ a0,(l.trans a).trans a0⟩
           case measure=>simp[intOf];omega
    ·obtain rfl:k=s:=om;rw[HA.out]at q;go_wp2;go_ret;exact⟨_,b,rfl,q.out,HV.out,x0.trans l⟩
def IsV (mx:List Int)(kind:Int)(pts:List ByteArray)(val:ByteArray):Option (List Int)->Prop
 |none=>kind=2/\pts= []/\val=⟨#[]⟩
 |some x=>kind=1/\pts=x.map zb1/\val=zb1 (T.dotZ mx x)
theorem zeX.ext{w':H}{zs:List ByteArray}(h:zeX w v zs)(hb:Ext w w'):zeX w' v zs:=by
 obtain⟨a,b,rfl,c⟩:=h;refine⟨a,b,rfl,fun a=>?_⟩;obtain⟨g,off,rfl,d,b⟩:=c a;exact⟨g,off,rfl,zK d hb.size,fun i z a=>hb.cell (b i z a)⟩
theorem zpI{mx lo:List Int}(b:∀z∈mx,z.natAbs<=6)(a:lo.length=mx.length)(d:mx.length<=3)(hb:∀z∈lo,z.natAbs<=99):Lim 18000000 (T.dotZ mx (ptK lo j)):=by
 have a:Zu 6 mx:=fun z c=>by have:=b z c;unfold Lim;omega
 exact(zcC a (zgs hb j)).mono (zF (zZ _ d) dc)
theorem zpJ(z:Int):((zb1 z).toList == (zb1 z).toList)=true:=sp
theorem zoc(w:H)(k q j h s r:Value)(mx lo m:List Int)(l:List (List Int))(p rs:List Int)(d:zc7 w k q j h s r mx lo m l p rs)(c:zai mx lo m l p rs)(I:Tab w)(kind:Int)(f:Value)(pts:List ByteArray)(val:ByteArray)(Q:zeX w f pts)(R:pts.length<=1000)(o:∀b,za8 mx lo m l p rs (8^mx.length) b->IsV mx kind pts val b):
 Calls pg 13 #[ag #[k,q,j,h,s,r],ag #[it Xb kind,f,gS val]] w fun e w'=>e=Xa (G true)/\Below w.heap.size w w':=by
 have a:=zpG;have a:=c.n1;have y:=c.n3;obtain⟨U,t⟩:=Xj w (cl #[k,q,j,h,s,r] 41) (cl #[it Xb kind,f,gS val] 28);have J:Ext w ((w.alloc (cl #[k,q,j,h,s,r] 41)).alloc (cl #[it Xb kind,f,gS val] 28)):=((Xe w).alloc _).alloc _;have K:=zf (fun W (a:Ext w W)=>zmg W k q j h s r mx lo m l p rs (d.ext a) c);have P:=zf (fun W (a:Ext w W) v j (h:Jf W v (ptK lo j))=>zeW W k v mx (ptK lo j) (d.m.ext a) h (by rw[zaz,c.ll]) om (zkg c.bm dc) (zgs c.bl j));have N:=zf (fun W (a:Ext w W) v j (h:Jf W v (ptK lo j))=>zlg W v (ptK lo j) h (fun z k=>by
  have:=zgs c.bl j z k;unfold Lim at this;have e:(10:Nat)^10=10000000000:=dc;omega) (by rw[zaz,c.ll];omega) (I.below a))
 have u:Hid (∀j,(ptK lo j).length=mx.length):=fun j=>by rw[zaz,c.ll]
 have L:=zf (fun j=>zpI (mx:=mx) (lo:=lo) (j:=j) c.b6 c.ll y c.bl);obtain⟨q,r,B,-⟩:=d.m;obtain⟨_,_,z,-⟩:=d.l;obtain⟨_,_,y,-⟩:=d.h;obtain⟨_,_,s,-⟩:=d.g;obtain⟨_,_,F,-⟩:=d.s;obtain⟨_,_,D,-⟩:=d.r;obtain⟨X,Y,k,C⟩:=Q;obtain⟨Ml,hMl⟩:∃h,h=mx.length:=⟨_,rfl⟩;obtain⟨ll,hLl⟩:∃h,h=lo.length:=⟨_,rfl⟩;obtain⟨hil,hHl⟩:∃h,h=m.length:=⟨_,rfl⟩;obtain⟨gsl,hGl⟩:∃h,h=l.length:=⟨_,rfl⟩;obtain⟨ssl,hSl⟩:∃h,h=p.length:=⟨_,rfl⟩;obtain⟨rsl,hRl⟩:∃h,h=rs.length:=⟨_,rfl⟩;rw[<-hMl]at B;rw[<-hLl]at z;rw[<-hHl]at y;rw[<-hGl]at s;rw[<-hSl]at F;rw[<-hRl]at D;subst B z y s F D;have l:=zf o;have D:Hid (∀W,Ext w W->zeX W f pts):=fun W a=>zeX.ext ⟨X,Y,k,C⟩ a
 have y:=zf k;clear d c o hMl hLl hHl hGl hSl hRl C k;go_enter func13,ntmps13
 go_wp2_with fail
 generalize World.alloc _ _=h at *;refine(K.out h J).mono ?_;rintro e w1 ⟨d,b,rfl,s,c,p⟩;have k:=Xh p;have h:=J.trans k;have o:=l.out b s;have z:=k.cell (c_ 0 t);have m:=k.cell (c_ 1 t);have B:=k.cell (c_ 2 t);cases b with
 |none=>
  obtain⟨rfl,rfl,rfl⟩:=o;have c:d=V O 0 0:=c;subst c;have t:=y.out;rw[QK]at t;rw[t]at m;clear s p l t;go_wp2;go_ret;exact⟨rfl,h⟩
 |some x=>
  obtain⟨rfl,C,rfl⟩:=o;obtain⟨-,⟨j,rfl⟩,-⟩:=s;have c:Jf w1 d (ptK lo j):=c;have y:Hid (∀W,Ext w1 W->Jf W d (ptK lo j)):=fun W a=>c.ext a
  obtain⟨_,_,d,o⟩:=c;rw[u.out j]at d o;obtain⟨_,_,rfl,-,-⟩:=o om;subst d;have F:=zf C;have s:=L.out j;obtain⟨d,hdd⟩:∃d,d=T.dotZ mx (ptK lo j):=⟨_,rfl⟩;rw[<-hdd]at s⊢;have t:=zf hdd;have c:Hid (∀W,Ext w1 W->(W.cell? ⟨w.heap.size+1,0,O⟩=E (it Xb 1)/\W.cell? ⟨w.heap.size+1,1,O⟩=E f/\W.cell? ⟨w.heap.size+1,2,O⟩=E (gS (zb1 d))/\W.cell? (Xd w.heap.size 0 O)=E (V q Ml r))):=fun W a=>⟨a.cell z,a.cell m,by rw[t.out];exact a.cell B,a.cell (k.cell (c_ 0 U))⟩
  clear p l C hdd o z m B;go_wp2;refine ZO (S:=fun W=>W.cell? ⟨w.heap.size+1,0,O⟩=E (it Xb 1)/\W.cell? ⟨w.heap.size+1,1,O⟩=E f/\W.cell? ⟨w.heap.size+1,2,O⟩=E (gS (zb1 d))/\W.cell? (Xd w.heap.size 0 O)=E (V q Ml r)) kr (c.out _ (Xe w1).drew) (fun a=>?_);refine tkl [0,1,2] ?_;refine rd1 3 fun K k=>?_;go_simp;go_at_call 23
  have l:=(Xe w1).drew;refine(N.out _ (h.trans l) _ j (y.out _ l)).mono ?_;rintro e p ⟨B,rfl,z,o⟩;have m:=l.trans (Xh o);go_wp2_with fail
  refine k.out _ _ (c.out _ m) (h:=fun a=>?_);clear k K;refine rcl 4 (zl2 p f B pts _ (D.out _ (h.trans m)) z R (by rw[zm,u.out];omega)) ?_;rintro e u ⟨rfl,p⟩;have l:=m.trans (Xh p);have m:=zbA F.out;rw[m];refine bk (c.out _ l) fun a=>?_
  refine tkv 5 ?_;refine zV kr ?_ _;clear a o p z m;go_wp2;refine ZO (S:=fun W=>W.cell? ⟨w.heap.size+1,0,O⟩=E (it Xb 1)/\W.cell? ⟨w.heap.size+1,1,O⟩=E f/\W.cell? ⟨w.heap.size+1,2,O⟩=E (gS (zb1 d))/\W.cell? (Xd w.heap.size 0 O)=E (V q Ml r)) kr (c.out _ l.drew) (fun a=>?_);refine tkl [0,1,2,3,4,5,6,7,8,9,10,11] ?_;refine rd1 12 fun K k=>?_;go_simp;go_at_call 24
  have f:=l.drew;refine(P.out _ (h.trans f) _ j (y.out _ f)).mono ?_;rintro e m ⟨rfl,l⟩;have j:=f.trans (Xh l);rw[<-t.out];go_wp2_with fail
  refine k.out _ _ (c.out _ j) (h:=fun a=>?_);clear k K;refine rcl 13 (zef d (by unfold Lim at s;omega) (by unfold Lim at s;omega) m (I.below (h.trans j))) ?_;rintro e f ⟨rfl,k⟩;have m:=j.trans (Xh k);have f:=zpJ d;have f:(⟨(Lib.itoa d).toArray⟩:ByteArray)=zb1 d:=rfl;rw[f];refine bk (c.out _ m) fun a=>?_
  clear f;refine tkl [14,15,16] ?_;refine zV kr ?_ _;clear a l k;go_wp2;go_ret;exact⟨rfl,h.trans m⟩
attribute [local go_sem] zD zW qJ
structure GoP (Q:List qO->Cor->List Zy->Prop)(D K n given:Nat)(aims:List Int):Prop where
 fit:∀{rows k ls},Q rows k ls->Fit D n aims k
 rowsn:∀{rows k ls},Q rows k ls->rows.length<=1000
 rowd:∀{rows k ls},Q rows k ls->∀r∈rows,r.1.1.length=n/\Jm D r.1
 lines:∀{rows k ls},Q rows k ls->∀l∈ls,zaO K l
 exch:∀{rows k ls r k'},Q rows k ls->Qv k rows=E r->Qe aims k r.1 r.2=E k'->Q rows k' ls
 none:∀{rows k ls r},Q rows k ls->Qv k rows=E r->Qe aims k r.1 r.2=Option.none->zaO K (zcn k r)
 great:∀{rows k ls},Q rows k ls->zaO K (endG aims k)
 cuts:∀{rows k ls},Q rows k ls->Qv k rows=Option.none->CutsOK D n aims k (given+ls.length+1)
 next:∀{rows k ls r},Q rows k ls->Qv k rows=Option.none->jF n aims k (given+ls.length+1) (qU n aims k) Option.none=E r->ls.length<20000->Q (jw k given rows ++ [(Zd n aims k r,given+ls.length+1)]) k (ls ++ [QX n aims k r])
theorem zhS{aims:List Int}{rows:List qO}:∀(f:Nat) (c c':Cor),ZV aims rows f c= .inl c'->Qv c' rows=O:=by
 intro f;induction f using Nat.strongRecOn with
 |_ f d=>
  intro c c' h;rw[zhP]at h;cases hb:Qv c rows with
  |none=>
   rw[hb]at h;cases h;exact hb
  |some r=>
   rw[hb]at h;simp only at h;cases hx:Qe aims c r.1 r.2 with
   |none=>rw[hx]at h;cases h
   |some b=>
    rw[hx]at h;simp only at h;by_cases a:f=0
    ·rw[zQ a]at h;cases h
    ·rw[zO a]at h;exact d (f-1) om b c' h
theorem zod(n:Nat)(aims:List Int)(given pivots f:Nat)(rows:List qO)(c:Cor)(a:List Zy):goS n aims given pivots f rows c a=match ZV aims rows pivots c with
 |.inr (.inr _)=> .inr (.inr a.length)
 |.inr (.inl (c,r))=> .inr (.inl (c,r,a))
 |.inl c'=>match jF n aims c' (given+a.length+1) (qU n aims c') Option.none with
  |Option.none=> .inl (c',a)
  |some r=>if f=0 then .inr (.inr a.length)else goS n aims given pivots (f-1) (jw c' given rows ++ [(Zd n aims c' r,given+a.length+1)]) c' (a ++ [QX n aims c' r]):=by
 cases f with
 |zero=>rw[goS];rfl
 |succ f=>rw[goS];rfl
def SolQ (B:Nat)(aims:List Int)(res:SOut)(e:Ending)(w':H):Prop:=
 match res with
 |.inl (k,ls)=>∃p:Option Addr×Nat×Nat,e=Xa (ag #[it Xb 1,sl3 p,gS (zT (T.dotZ aims (ptS k))),it Xb (ls.length:Int),gS ⟨(zab ls (endG aims k)).toArray⟩])/\Grw B 9 1 w' (sl3 p) (((ptS k).map zT).map zdh)
 |.inr (.inl (k,r,ls))=>e=Xa (ag #[it Xb 2,V O 0 0,gS ⟨#[]⟩,it Xb (ls.length:Int),gS ⟨(zab ls (zcn k r)).toArray⟩])
 |.inr (.inr m)=>e=Xa (ag #[it Xb 3,V O 0 0,gS ⟨#[]⟩,it Xb (m:Int),gS ⟨#[]⟩])
def lenAt (w:H)(g j:Nat):Nat:=match w.cell? (Xd g j O)with
 |some (V _ l _)=>l
 |_=>0
theorem zmh{g l:Nat}{a:Option Addr}{c:Nat}(h:w.cell? (Xd g j O)=E (V a l c)):lenAt w g j=l:=by
 unfold lenAt;rw[h]
theorem zmU{D K n given:Nat}(hc:jN D K)(aE:K<=200000)(bb:given<=1000){aims:List Int}{Q:List qO->Cor->List Zy->Prop}(hQ:GoP Q D K n given aims)(w:H){B:Nat}(hB:B<=w.heap.size)(aJ:Tab w)(ao ap:Option Addr)(aq cap pm kp:Nat)(s:List qO)(p:Cor)(b1:Q s p [])(b5:∀W,Ext w W->Calls pg 46 #[ag #[V ao aq cap,V ap pm kp]] W fun e w'=>∃l a c rv cv av ay,e=Xa (pn (E (Xd l 0 O)))/\SrM w' W.heap.size l n given aims a c rv cv p av s ay [] []/\Below W.heap.size W w')(cuts pivots:Nat)(bn:cuts<9223372036854775808)(bd:pivots<9223372036854775808):
 Calls pg 27 #[ag #[V ao aq cap,V ap pm kp],it Xb (cuts:Int),it Xb (pivots:Int)] w fun e w'=>SolQ B aims (goS n aims given pivots (min cuts 20000) s p []) e w'/\Below w.heap.size w w':=by
 obtain⟨N,hN⟩:∃N,min cuts 20000=N:=⟨_,rfl⟩;have HN:=zf hN;rw[hN];have bl:N<=20000:=om;have k:=zf hQ;have aO:=zf b5;obtain⟨aM,n6⟩:=Xj w (cl #[V ao aq cap,V ap pm kp] 61) (cl #[it Xb 0,V O 0 0,gS ⟨#[]⟩,it Xb 0,gS ⟨#[]⟩] 30);have I:Ext w ((w.alloc (cl #[V ao aq cap,V ap pm kp] 61)).alloc (cl #[it Xb 0,V O 0 0,gS ⟨#[]⟩,it Xb 0,gS ⟨#[]⟩] 30)):=((Xe w).alloc _).alloc _;have bi:=c_ 0 aM;have bj:=c_ 1 aM;refine zcW func27 ntmps27 (h:=?_);gi_wp2;generalize World.alloc _ _=t at *;refine(zq.2 (aO.out t I)).mono ?_;rintro e w1 ⟨l,a,c,rv,cv,av,ay,rfl,b2,b4⟩;have x1:Ext t w1:=Xh b4;have al:=(zd.1 n6).1;gi_wp2;gi_loopw [] (fun wr=>∃(c':CT) (k':Cor) (ai:List ET) (ar aC:Value) (rows:List qO) (aN:List NT) (b:List Zy) (aL:List LT),b.length<=N/\Q rows k' b/\SrM wr t.heap.size l n given aims a c' ar aC k' ai rows aN b aL/\Ext t wr/\Hid (goS n aims given pivots N s p []=goS n aims given pivots (N-b.length) rows k' b)) (fun wr=>N-lenAt wr l 8)
 case atStart=>exact⟨c,p,av,rv,cv,s,ay,[],[],qo _,b1,b2,x1,rfl⟩
 case round=>
  obtain⟨c',k',ai,ar,aC,rows,aN,b,aL,_,hq,a8,hx,ax⟩:=hrel;have br:=a8.old;obtain⟨aA,aB,aI⟩:=a8.lgrw.shape;rw[zm,a8.llen]at aI;subst aI;have aP:Hid (wr.cell? (Xd l 8 O)=E (V aA b.length aB)):=c_ 8 a8.box;have a0:=zf (zoa hc aE a8 (fun an=>Q rows an b) (fun an aw=>k.out.fit aw) (fun an r k' h1 h2 h3=>k.out.exch h1 h2 h3) (fun an r h1 h2 h3=>k.out.none h1 h2 h3) hq (k.out.rowsn hq) (k.out.rowd hq) om (k.out.lines hq) (fun W hW=>aJ.below (I.trans (qk hx hW (fun h o=>om)))) pivots bd);cases hst:ZV aims rows pivots k' using SetR.cs with
  |no d r=>
   rw[hst]at a0;have y:Hid (goS n aims given pivots N s p []= .inr (.inl (d,r,b))):=by rw[Hid,ax.out,zod,hst];try rfl
   gi_wp2;refine(zq.2 a0.out).mono ?_;rintro e m ⟨rfl,a9⟩;have Z:Ext t (m.alloc (cl #[it Xb 2,V O 0 0,gS ⟨#[]⟩,it Xb (b.length:Int),gS ⟨(zab b (zcn d r)).toArray⟩] 30)):=(qk hx a9 (fun h o=>om)).alloc _;have C:=(Z.block _ al).trans n6;have q:=zC m (cl #[it Xb 2,V O 0 0,gS ⟨#[]⟩,it Xb (b.length:Int),gS ⟨(zab b (zcn d r)).toArray⟩] 30);have i0:=c_ 0 q;have i1:=c_ 1 q;have i2:=c_ 2 q;have i3:=c_ 3 q;have i4:=c_ 4 q;obtain⟨Y,F,⟨t0,t1,t2,t3,t4⟩,f0,f1,f2,f3,f4⟩:=jp C (it Xb 2) (V O 0 0) (gS ⟨#[]⟩) (it Xb (b.length:Int)) (gS ⟨(zab b (zcn d r)).toArray⟩);have f:=zf Y;have J:=zf (qk (I.trans Z) F (fun h o=>om));gi_wp2;have P:=c_ 0 f.out;have R:=c_ 1 f.out;have S:=c_ 2 f.out;have U:=c_ 3 f.out;have X:=c_ 4 f.out;exact zH (v:=ag #[it Xb 2,V O 0 0,gS ⟨#[]⟩,it Xb (b.length:Int),gS ⟨(zab b (zcn d r)).toArray⟩]) (by simp[results,results27,go_sem,P,R,S,U,X]) rfl ⟨by rw[y.out];rfl,J.out⟩
  |li=>
   rw[hst]at a0;have y:Hid (goS n aims given pivots N s p []= .inr (.inr b.length)):=by rw[Hid,ax.out,zod,hst];try rfl
   gi_wp2;refine(zq.2 a0.out).mono ?_;rintro e m ⟨rfl,a9⟩;have Z:Ext t (m.alloc (cl #[it Xb 3,V O 0 0,gS ⟨#[]⟩,it Xb (b.length:Int),gS ⟨#[]⟩] 30)):=(qk hx a9 (fun h o=>om)).alloc _;have C:=(Z.block _ al).trans n6;have q:=zC m (cl #[it Xb 3,V O 0 0,gS ⟨#[]⟩,it Xb (b.length:Int),gS ⟨#[]⟩] 30);have i0:=c_ 0 q;have i1:=c_ 1 q;have i2:=c_ 2 q;have i3:=c_ 3 q;have i4:=c_ 4 q;obtain⟨Y,F,⟨t0,t1,t2,t3,t4⟩,f0,f1,f2,f3,f4⟩:=jp C (it Xb 3) (V O 0 0) (gS ⟨#[]⟩) (it Xb (b.length:Int)) (gS ⟨#[]⟩);have f:=zf Y;have J:=zf (qk (I.trans Z) F (fun h o=>om));gi_wp2;have P:=c_ 0 f.out;have R:=c_ 1 f.out;have S:=c_ 2 f.out;have U:=c_ 3 f.out;have X:=c_ 4 f.out;exact zH (v:=ag #[it Xb 3,V O 0 0,gS ⟨#[]⟩,it Xb (b.length:Int),gS ⟨#[]⟩]) (by simp[results,results27,go_sem,P,R,S,U,X]) rfl ⟨by rw[y.out];rfl,J.out⟩
  |ok d=>
   rw[hst]at a0;have aG:=zhS _ _ _ hst;have au:Hid (goS n aims given pivots N s p []=match jF n aims d (given+b.length+1) (qU n aims d) Option.none with
    |Option.none=> .inl (d,b)
    |some r=>if N-b.length=0 then .inr (.inr b.length)else goS n aims given pivots (N-b.length-1) (jw d given rows ++ [(Zd n aims d r,given+b.length+1)]) d (b ++ [QX n aims d r])):=by rw[Hid,ax.out,zod,hst];try rfl
   gi_wp2;refine(zq.2 a0.out).mono ?_;rintro e m ⟨⟨rfl,z,c2,aD,b3⟩,a9⟩;have Z:Ext t m:=qk hx a9 (fun h o=>om);have z2:Ext m (m.alloc (cl #[it Xb 0,V O 0 0,gS ⟨#[]⟩,it Xb 0,gS ⟨#[]⟩] 30)):=(Xe m).alloc _;have ak:=b3.ext z2;have y2:=Z.trans z2;gi_wp2;generalize bq:m.heap.size=g8 at *;generalize World.alloc _ _=A2 at *;obtain⟨ca,cc,hcv⟩:∃ca cc,(V aA b.length aB)=V ca b.length cc:=⟨_,_,rfl⟩;rw[hcv]at ak;have b9:=k.out.cuts z aG;have aQ:=zf (zmR hc A2 l given b.length a ar ca cc c2 ak.box bb om aims d aD ak.cor (k.out.fit z) b9);have aU:=zf ak;refine(zq.2 aQ.out).mono ?_;rintro e A3 ⟨⟨⟨⟨fa,fl,fc⟩,⟨tb,ta,tl,tc⟩,nn⟩,⟨⟨va,vl,vc⟩,⟨qa,ql,qc⟩⟩,⟨⟨a2,a4,a3⟩,⟨aa,ad,ab⟩,⟨ae,ah,af⟩,⟨a5,a7,a6⟩⟩⟩,rfl,b7,aF⟩;simp only[JG.val,JG.cells,NT.fv,WT.sv,LT.ov,LT.pv,sl3];obtain⟨u,z4⟩:=new1 A3 (cl #[V fa fl fc,G tb,V ta tl tc,it Xb nn,V va vl vc,V qa ql qc,V a2 a4 a3,V aa ad ab,V ae ah af,V a5 a7 a6] 127);have L:=aU.out.ext ((Xh aF).trans z4);have y4:=(y2.trans (Xh aF)).trans z4;have b8:∀r,jF n aims d (given+b.length+1) (qU n aims d) O=E r->∃ai,zcH (A3.alloc (cl #[V fa fl fc,G tb,V ta tl tc,it Xb nn,V va vl vc,V qa ql qc,V a2 a4 a3,V aa ad ab,V ae ah af,V a5 a7 a6] 127)) aims ⟨⟨(fa,fl,fc),⟨tb,ta,tl,tc⟩,nn⟩,⟨(va,vl,vc),(qa,ql,qc)⟩,⟨(a2,a4,a3),(aa,ad,ab),(ae,ah,af),(a5,a7,a6)⟩⟩ (Zd n aims d r,given+b.length+1) (QX n aims d r) (Z1 n aims d (given+b.length+1) r) ai:=fun r hr=>(b7 r hr).imp fun _ aw=>aw.ext z4
   have bp:=y4.size;cases hdp:jF n aims d (given+b.length+1) (qU n aims d) O with
   |none=>
    have y:Hid (goS n aims given pivots N s p []= .inl (d,b)):=by rw[Hid,au.out,hdp]
    have aR:=zf (zhO hc aE L (k.out.fit z) om (k.out.lines z) (k.out.great z) (aJ.below (I.trans y4)));simp only[zeQ];gi_wp2;refine(zq.2 aR.out).mono ?_;rintro e A6 ⟨⟨g1,g2,g3⟩,rfl,aK,a1⟩;have y6:Ext t A6:=y4.trans (Xh a1);have C:=(y6.block _ al).trans n6;simp only[sl3]at aK⊢;obtain⟨vs,hvs⟩:∃vs,zT (T.dotZ aims (ptS d))=vs:=⟨_,rfl⟩;have aX:=zf hvs;rw[hvs];obtain⟨Y,F,⟨t0,t1,t2,t3,t4⟩,f0,f1,f2,f3,f4⟩:=jp C (it Xb 1) (V g1 g2 g3) (gS vs) (it Xb (b.length:Int)) (gS ⟨(zab b (endG aims d)).toArray⟩);have f:=zf Y;have J:=zf (qk (I.trans y6) F (fun h o=>om));have aV:=zf ((aK.low (zF hB (I.trans y4).size)).wr F (fun h o=>by rw[o];exact fun ht=>absurd (ht.one ⟨_,_,C⟩) dc));gi_wp2;have P:=c_ 0 f.out;have R:=c_ 1 f.out;have S:=c_ 2 f.out;have U:=c_ 3 f.out;have X:=c_ 4 f.out;exact zH (v:=ag #[it Xb 1,V g1 g2 g3,gS vs,it Xb (b.length:Int),gS ⟨(zab b (endG aims d)).toArray⟩]) (by simp[results,results27,go_sem,P,R,S,U,X]) rfl ⟨by rw[y.out];exact⟨(g1,g2,g3),by rw[aX.out];rfl,aV.out⟩,J.out⟩
   |some r=>
    obtain⟨_,aH⟩:=b8 r hdp;have bh:=zf aH;by_cases bo:N<=b.length
    ·have y:Hid (goS n aims given pivots N s p []= .inr (.inr b.length)):=by
      rw[Hid,au.out,hdp];exact zQ om
     have aS:=zf (zfZ L);have c8:(A3.alloc (cl #[V fa fl fc,G tb,V ta tl tc,it Xb nn,V va vl vc,V qa ql qc,V a2 a4 a3,V aa ad ab,V ae ah af,V a5 a7 a6] 127)).cell? (Xd l 8 O)=E (V ca b.length cc):=c_ 8 L.box;have b6:min (cuts:Int) 20000<=(b.length:Int):=by have:=HN.out;omega
     simp only[zba];gi_wp2;refine(zq.2 aS.out).mono ?_;rintro e A6 ⟨rfl,a1⟩;have y6:Ext t A6:=y4.trans (Xh a1);have C:=(y6.block _ al).trans n6;obtain⟨Y,F,⟨t0,t1,t2,t3,t4⟩,f0,f1,f2,f3,f4⟩:=jp C (it Xb 3) (V O 0 0) (gS ⟨#[]⟩) (it Xb (b.length:Int)) (gS ⟨#[]⟩);have f:=zf Y;have J:=zf (qk (I.trans y6) F (fun h o=>om));gi_wp2;have P:=c_ 0 f.out;have R:=c_ 1 f.out;have S:=c_ 2 f.out;have U:=c_ 3 f.out;have X:=c_ 4 f.out;exact zH (v:=ag #[it Xb 3,V O 0 0,gS ⟨#[]⟩,it Xb (b.length:Int),gS ⟨#[]⟩]) (by simp[results,results27,go_sem,P,R,S,U,X]) rfl ⟨by rw[y.out];rfl,J.out⟩
    ·have bs:b.length<N:=om;have be:=k.out.next z aG hdp om;have y:Hid (goS n aims given pivots N s p []=goS n aims given pivots (N-(b ++ [QX n aims d r]).length) (jw d given rows ++ [(Zd n aims d r,given+b.length+1)]) d (b ++ [QX n aims d r])):=by
      rw[Hid,au.out,hdp];have e9:N-b.length-1=N-(b ++ [QX n aims d r]).length:=so;show(if N-b.length=0 then(.inr (.inr b.length):SOut)else goS n aims given pivots (N-b.length-1) (jw d given rows ++ [(Zd n aims d r,given+b.length+1)]) d (b ++ [QX n aims d r]))=_
      rw[zO om,e9]
     have c8:(A3.alloc (cl #[V fa fl fc,G tb,V ta tl tc,it Xb nn,V va vl vc,V qa ql qc,V a2 a4 a3,V aa ad ab,V ae ah af,V a5 a7 a6] 127)).cell? (Xd l 8 O)=E (V ca b.length cc):=c_ 8 L.box;have b6:(b.length:Int)<min (cuts:Int) 20000:=by have:=HN.out;omega
     have az:=zf (zlj L (k.out.rowsn z) (by have h8:=(k.out.fit z).elen;have h9:=(k.out.fit z).n4;omega) om y4.size _ _ _ _ _ aH);have hU:∀h,h=l\/ar.ownBlock=E h\/(V ca b.length cc).ownBlock=E h->t.heap.size<=h:=fun h o=>by
      rcases o with e|e|e
      ·omega
      ·exact(L.rgrw.type h e).2
      ·exact(L.lgrw.type h e).2
     have i0:=c_ 0 u;have i1:=c_ 1 u;have i2:=c_ 2 u;have i3:=c_ 3 u;have i4:=c_ 4 u;have i5:=c_ 5 u;have i6:=c_ 6 u;have i7:=c_ 7 u;have i8:=c_ 8 u;have i9:=c_ 9 u;simp only[JG.val,JG.cells,NT.fv,WT.sv,LT.ov,LT.pv,sl3]at az;have aW:=zf hU;have bc:=zmh (w:=wr) (g:=l) (j:=8) aP.out;simp only[zba];gi_wp2;refine(zq.2 az.out).mono ?_;rintro e A6 ⟨⟨_,rfl⟩,⟨bg,aY,aj,-⟩,bf⟩;have y6:Ext t A6:=qk y4 bf aW.out;have aZ:lenAt A6 l 8=(b ++ [QX n aims d r]).length:=by
      obtain⟨_,_,ba⟩:=aj.lgrw.shape;have a1:=aj.box;rw[ba,zm,aj.llen]at a1;exact zmh (c_ 8 a1)
     have aT:=zf aj;gi_wp2;go_roundw
     case rel=>exact⟨c2,d,aD,bg,aY,_,_,_,_,so,be,aT.out,y6,y.out⟩
     case measure=>
      rw[aZ,bc];simp;omega
theorem LdC.ext{p:qF}{cs:List zac}{rs:List RwV}{f:Nat}{c d:Option Addr}{cap k e:Nat}{W b:H}(h:LdC p cs rs f j c d cap k e W)(a:Ext W b):LdC p cs rs f j c d cap k e b:=⟨a.cell h.c0,a.cell h.c1,h.pm.ext a⟩
def bgX (fa:Option Addr)(fl fc n k:Nat)(v:Value):Array Value:=#[V fa fl fc,it Xb (n:Nat),it Xb (k:Int),v,V O 0 0,V O 0 0,V O 0 0,V O 0 0,V O 0 0]
section

variable {α:Type} {te:TypeId} {sz:Nat} {tb:TypeId} {bx bx':Value->Array Value} {cells:α->List Value} {w1 A:World} {b0 g gm i:Nat} {v x:Value} {us:List α} {M:Nat->Prop}
theorem GrJ.put (h:GrJ te sz tb bx cells w1 b0 g gm v us M A)(k:(bx v).setIfInBounds i x=bx' v):GrJ te sz tb bx' cells w1 b0 g gm v us M (A.setCell (Xd g i O) x)/\Wr (fun b=>b=g) A (A.setCell (Xd g i O) x):=by
 obtain⟨a,f,d,e,j⟩:=h;have c:Wr (fun b=>b=g) A (A.setCell (Xd g i O) x):=zv (U:=fun b=>b=g) rfl _;exact⟨⟨a.trans (c.mono fun b a=> .inl a),by rw[Xk f,k],d.same c.size (fun b a=>c.block b (d.type b a).1.lt (e b a).1),e,j⟩,c⟩
theorem GrJ.priv (h:GrJ te sz tb bx cells w1 b0 g gm v us M A){B:H}(a:Wr (zaa w1.heap.size A) A B)(d:te≠3/\te≠4)(c:tb≠3/\tb≠4):GrJ te sz tb bx cells w1 b0 g gm v us M B:=by
 obtain⟨e,b,f,j,k⟩:=h;exact⟨e.after a (fun e e=> .inr e.1),a.some b (fun e=>e.type c.1 c.2 ⟨_,_,b⟩),f.priv a d.1 d.2,j,k⟩
end
def BgI (w1:H)(b0 gs:Nat)(fa:Option Addr)(fl fc n:Nat)(rows:List (List Int×Int))(k:Nat)(M:Nat->Prop)(A:H):Prop:=
 ∃(rv:Value) (rts:List NT),GrJ 117 4 134 (bgX fa fl fc n k) NT.cells w1 b0 gs gs rv rts M A/\rts.length=k/\∀(i:Nat) (t:NT) (r:List Int×Int),rts[i]? =E t->rows[i]? =E r->zaP A t (r,i+1)
theorem zhT {fa:Option Addr}{fl fc n k:Nat}{v:Value}(b:ZM v):∀x∈(bgX fa fl fc n k v).toList,ZM x:=by
 intro x a;simp[bgX]at a;rcases a with rfl|rfl|rfl|rfl|rfl
 all_goals first|exact b|(intro m e;cases e)
theorem zsf {w0 c:H}{a d:Nat}{o:Obj}(e:c.heap[a]? =E (cl #[pn O] 109))(h:c.heap[d]? =E o)(y:Ext w0 c)(hg:w0.heap.size<=a)(j:a≠d):
 (c.setCell (Xd a 0 O) (pn (E (Xd d 0 O)))).heap[a]? =E (cl #[pn (E (Xd d 0 O))] 109)/\(c.setCell (Xd a 0 O) (pn (E (Xd d 0 O)))).heap[d]? =E o/\Ext w0 (c.setCell (Xd a 0 O) (pn (E (Xd d 0 O))))/\Wr (fun b=>b=a) c (c.setCell (Xd a 0 O) (pn (E (Xd d 0 O))))/\(¬qQ c a 75/\qK c a)/\c.cell? (Xd a 0 O)=E (pn O)/\c.frozen? (Xd a 0 O)=false:=by
 have f:Wr (fun b=>b=a) c (c.setCell (Xd a 0 O) (pn (E (Xd d 0 O)))):=zv (U:=fun k=>k=a) rfl _;exact⟨Xk e,f.some h (fun a=>j a.symm),qk y f (fun b a=>by rw[a];exact hg),f,⟨fun a=>absurd (a.one ⟨_,_,e⟩) dc,zE e n1⟩,c_ 0 e,Xg e⟩
theorem ZS.from {w:H}{t:TypeId}{g cap size lo m:Nat}{a:List (List Value)}(h:ZS w t (V (E (Xd g 0 O)) m cap) size a)(hm:a.length=m)(b:lo<=m):ZS w t (V (E ⟨g,lo*size,O⟩) (m-lo) (cap-lo)) size (a.drop lo):=by
 rcases h with h|⟨_,off,_,a,_,b,c⟩
 ·cases h.1
 ·simp only[qp,qN,Jg]at a;obtain⟨⟨rfl,rfl,-⟩,_,rfl⟩:=a;refine .inr ⟨g,lo*size,cap-lo,by rw[Za,hm],by rw[Za];omega,b,fun i cs a j u b=>?_⟩;rw[Jo]at a;have:=c (lo+i) cs a j u b;rw[qt,Zg]at this;exact this
theorem zkT {p:qF}{i:Nat}{r:qO}(h:(jf p)[i]? =E r):(T.rowsS p)[i]? =E r.1/\r.2=i+1:=by
 unfold jf at h;rw[zR,List.getElem?_zipIdx]at h;cases hy:(T.rowsS p)[i]? with
 |none=>rw[hy]at h;simp at h
 |some y=>
  rw[hy]at h;simp at h;rw[<-h];exact⟨rfl,rfl⟩
theorem zhU (p:qF):(jf p).length=(T.rowsS p).length:=by unfold jf;simp
theorem zmi (z:Int)(h1:-1000<=z)(h2:z<=1000):IntKind.i64.wrap z=z:=by
 unfold IntKind.wrap;simp only[IntKind.bits,IntKind.signed,zaT];split
 ·rename_i h
  have:=jU h;omega
 ·rename_i h
  have a:¬(z%2^64>=2^(64-1)):=fun e=>h (zbA e)
  omega
theorem zit {L:Nat}{p:qF}(a:zbU L p)(b:2+p.n<=L):(T.rowsS p).length<=20:=by
 obtain⟨_,_⟩:=a.n om;rw[zf0,ziV];have b:=a.l;have b:∀l:List (List Int×List UInt8×Int),(l.flatMap T.condRows).length<=2*l.length:=by
  intro l;induction l with
  |nil=>simp
  |cons a l c=>
   rw[Qo,zM,qi];have:(T.condRows a).length<=2:=by
    unfold T.condRows;rw[zM];split<;>split<;>simp
   omega
 have:=b p.rows;omega
theorem zpK {L D K:Nat}(hc:jN D K)(p:qF)(cs:List zac)(rs:List RwV)(bc gR:Nat)(z B:Option Addr)(cap I:Nat)(w:H)(hp:zbU L p)(s:2+p.n<=L)(b5:p.mx.length=p.n)(bL:Zu D p.mx)(cc:2*p.n<=(T.rowsS p).length)(c4:∀r∈jf p,r.1.1.length=p.n/\Jm D r.1)(bV:zb9 p.mx ((jf p).drop ((T.rowsS p).length-2*p.n))=ze7 p)(bR:(jx p.mx ((jf p).drop ((T.rowsS p).length-2*p.n))).length=p.n)(h:PM p cs rs bc gR z B w):
 Calls pg 46 #[ag #[V z p.n cap,V B p.rows.length I]] w fun e w'=>∃d a c rv cv aB N,e=Xa (pn (E (Xd d 0 O)))/\SrM w' w.heap.size d p.n (T.rowsS p).length p.mx a c rv cv (ze7 p) aB (jf p) N [] []/\Below w.heap.size w w':=by
 obtain⟨_,bZ⟩:=hp.n om;have aS:=zf s;clear s;have bj:Hid (∀W,Ext w W->Calls pg 40 #[ag #[V z p.n cap,V B p.rows.length I]] W fun e w'=>∃b,e=Xa (.func (.func 73) #[] #[pn (E (Xd b 0 O))])/\LdC p cs rs bc gR z B cap I b w'/\Below W.heap.size W w'):=fun W F=>by
  refine(zrU z p.n cap B p.rows.length I W).mono ?_;rintro e w' ⟨rfl,rfl⟩;have hn:=zC W (cl #[V z p.n cap,V B p.rows.length I] 61);exact⟨_,rfl,⟨c_ 0 hn,c_ 1 hn,h.ext (F.alloc _)⟩,(qf _ _).alloc (zh _) _⟩
 have bu:Hid (∀W b,LdC p cs rs bc gR z B cap I b W->Calls pg 77 #[.func (.func 73) #[] #[pn (E (Xd b 0 O))]] W fun e w'=>∃aW:Option Addr×Nat×Nat,e=Xa (ag #[sl3 aW])/\Zo w' (sl3 aW) p.mx/\Below W.heap.size W w'):=fun W b hl=>zmO W _ _ p.mx (aimsSeq hl om b5) om
 have bB:Hid (∀W,Calls pg 39 #[ag #[V z p.n cap,V B p.rows.length I]] W fun e w'=>e=Xa (it Xb (p.n:Nat))/\Below W.heap.size W w'):=fun W=>by
  refine(zmc z B p.n cap p.rows.length I W om).mono ?_;rintro e w' ⟨rfl,rfl⟩;exact⟨rfl,(qf _ _).alloc (zh _) _⟩
 obtain⟨aM,x0⟩:=new1 w (cl #[V z p.n cap,V B p.rows.length I] 61);have bw:=zf h;clear h;refine Q0 func46 ntmps46 (h:=?_);gi_wp2;generalize World.alloc _ _=w0 at *;have a0:Hid (∀W,Ext w0 W->W.cell? (Xd w.heap.size 0 O)=E (V z p.n cap)/\W.cell? (Xd w.heap.size 1 O)=E (V B p.rows.length I)):=fun W F=>
  have bg:=(F.block _ (zd.1 aM).1).trans aM;⟨c_ 0 bg,c_ 1 bg⟩
 refine zfe (S:=fun W=>W.cell? (Xd w.heap.size 0 O)=E (V z p.n cap)/\W.cell? (Xd w.heap.size 1 O)=E (V B p.rows.length I))
  (fun a' P=>∃(g3 d:Nat) (fa:Option Addr) (q o:Nat) (v6:Value),P.heap[g3]? =E (cl #[pn (E (Xd d 0 O))] 109)/\P.heap[d]? =E (cl #[V fa q o,it Xb (p.n:Nat),it Xb 0,V O 0 0,V O 0 0,V O 0 0,V O 0 0,V O 0 0,V O 0 0] 134)/\Zo P (V fa q o) p.mx/\Ext w0 P/\w0.heap.size<=g3/\w0.heap.size<=d/\g3≠d/\
   a'={ tmps:=#[ag #[V z p.n cap,V B p.rows.length I],pn (E (Xd w.heap.size 0 O)),pn O,pn (E (Xd g3 0 O)),undef,ag #[V z p.n cap,V B p.rows.length I],v6,ag #[V fa q o],ag #[V z p.n cap,V B p.rows.length I],it Xb (p.n:Nat),ag #[V fa q o,it Xb (p.n:Nat),it Xb 0,V O 0 0,V O 0 0,V O 0 0,V O 0 0,V O 0 0,V O 0 0],pn (E (Xd d 0 O)),undef,undef,undef,undef,undef,undef,undef,undef,undef,undef,undef,undef,undef,undef,undef,undef,undef,undef,undef,undef,undef,undef,undef,undef,undef,undef,undef,undef,undef,undef,undef,undef,undef,undef,undef,undef,undef,undef,undef,undef,undef,undef,undef,undef,undef,undef,undef,undef,undef,undef],defers:= [] }) hm (a0.out w0.drew (Xe w0).drew) (fun C=>?_) ?_
 ·have y:=(Xe w0).drew;refine tkl [0,3] ?_;iterate 2 all_goals try
   first
    |(have _l:=s;refine rd1 1 fun K f=>?_)
    |refine rd2 1 7 (h:=fun K f=>?_) (h1:=fun K f=>?_)
   all_goals
    go_simp;first
     |go_at_call 40
     |(
      refine f.out _ _ (a0.out _ (y.alloc (cl #[pn O] 109))) (h:=fun C=>?_);clear f K;obtain⟨s,a6⟩:=zcb y (cl #[pn O] 109);have y:=y.alloc (cl #[pn O] 109))
  all_goals
   refine(bj.out _ (x0.trans y)).mono ?_;rintro e B1 ⟨_,rfl,aw,aZ⟩;have y:=y.trans (Xh aZ);try have s:=J8 s aZ
   go_wp2_with fail
   refine f.out _ _ (a0.out _ y) (h:=fun C=>?_);clear f K
  iterate 2 all_goals try
   first
    |(have _l:=s;refine rd1 2 fun K f=>?_)
    |refine rd2 2 7 (h:=fun K f=>?_) (h1:=fun K f=>?_)
   all_goals
    go_simp;first
     |go_at_call 77
     |(
      refine f.out _ _ (a0.out _ (y.alloc (cl #[pn O] 109))) (h:=fun C=>?_);clear f K;obtain⟨s,a6⟩:=zcb y (cl #[pn O] 109);have aw:=aw.ext ((Xe _).alloc (cl #[pn O] 109));have y:=y.alloc (cl #[pn O] 109))
  all_goals
   refine(bu.out _ _ aw).mono ?_;rintro e B2 ⟨⟨fa,q,o⟩,rfl,Y,a1⟩;have y:=y.trans (Xh a1);try have s:=J8 s a1
   simp only[sl3]at Y⊢;go_wp2_with fail
   refine f.out _ _ (a0.out _ y) (h:=fun C=>?_);clear f K aw
  iterate 2 all_goals try
   first
    |(have _l:=s;refine rd1 4 fun K f=>?_)
    |refine rd2 4 7 (h:=fun K f=>?_) (h1:=fun K f=>?_)
   all_goals
    go_simp;first
     |go_at_call 39
     |(
      refine f.out _ _ (a0.out _ (y.alloc (cl #[pn O] 109))) (h:=fun C=>?_);clear f K;obtain⟨s,a6⟩:=zcb y (cl #[pn O] 109);have Y:=Y.ext ((Xe _).alloc (cl #[pn O] 109));have y:=y.alloc (cl #[pn O] 109))
  all_goals
   refine(bB.out _).mono ?_;rintro e B3 ⟨rfl,aE⟩;have y:=y.trans (Xh aE);try have s:=J8 s aE
   have Y:=Y.ext (Xh aE);go_wp2_with fail
   refine f.out _ _ (a0.out _ y) (h:=fun C=>?_);clear f K;refine tkv 5 ?_
  iterate 2 all_goals try first
   |(have _l:=s;have _r:=hR)
   |(
    (
     first
     |(have _l:=s;refine rd1 6 fun K f=>?_)
     |(have _r:=hR;refine rd1 7 fun K f=>?_)
     |refine rd2 6 7 (h:=fun K f=>?_) (h1:=fun K f=>?_))
    all_goals
     go_simp;first
      |(
       refine f.out _ _ (a0.out _ (y.alloc (cl #[pn O] 109))) (h:=fun C=>?_);clear f K;obtain⟨s,a6⟩:=zcb y (cl #[pn O] 109);try(have hq:=zdC hR (cl #[pn O] 109);obtain⟨hR,a7⟩:=hq)
       have Y:=Y.ext ((Xe _).alloc (cl #[pn O] 109));have y:=y.alloc (cl #[pn O] 109))
      |(
       refine f.out _ _ (a0.out _ (y.alloc (cl #[V fa q o,it Xb (p.n:Nat),it Xb 0,V O 0 0,V O 0 0,V O 0 0,V O 0 0,V O 0 0,V O 0 0] 134))) (h:=fun C=>?_);clear f K;obtain⟨hR,aG⟩:=zcb y (cl #[V fa q o,it Xb (p.n:Nat),it Xb 0,V O 0 0,V O 0 0,V O 0 0,V O 0 0,V O 0 0,V O 0 0] 134);try(have hq:=zdC s (cl #[V fa q o,it Xb (p.n:Nat),it Xb 0,V O 0 0,V O 0 0,V O 0 0,V O 0 0,V O 0 0,V O 0 0] 134);obtain⟨s,a7⟩:=hq)
       have Y:=Y.ext ((Xe _).alloc (cl #[V fa q o,it Xb (p.n:Nat),it Xb 0,V O 0 0,V O 0 0,V O 0 0,V O 0 0,V O 0 0,V O 0 0] 134));have y:=y.alloc (cl #[V fa q o,it Xb (p.n:Nat),it Xb 0,V O 0 0,V O 0 0,V O 0 0,V O 0 0,V O 0 0,V O 0 0] 134)))
  all_goals
   obtain⟨P,hV⟩:=zl8 y;try simp only[zL,zay]at a6
   try simp only[zL,zay]at aG
   try simp only[zL,zay]at a7
   try simp only[zL,zay]at s
   try simp only[zL,zay]at hR
   simp only[hV]at s hR y Y C⊢;clear hV;obtain⟨bI,bJ,y1,ah,bO,_,_⟩:=zsf s hR y a6 (by first|exact a7|exact a7.symm);refine rd1 8 fun K f=>?_;go_simp;refine f.out _ _ (a0.out _ y1) (h:=fun C=>?_);clear f K;exact zV kr ⟨rfl,(by first|rfl|trivial),_,_,fa,q,o,_,bI,bJ,Y.wr ah (fun b l=>by rw[l];exact bO),y1,a6,aG,(by first|exact a7|exact a7.symm),rfl⟩ _
 ·rintro a' P ⟨g3,d,fa,q,o,v6,h3,hS,Y,y,a6,aG,a7,rfl⟩;have cg:=(zd.1 aM).1;have xV:=x0.trans y;have bG:=(zd.1 h3).1;have bK:=(zd.1 hS).1;obtain⟨c0,c1⟩:=a0.out P y;have bD:=zf Y;obtain⟨i0,b3,c7,ba,c8⟩:=Zn ziR;have cd:=zit hp aS.out;clear Y;gi_wp2;refine(zq.2 (zr8 z B p.n cap p.rows.length I P)).mono ?_;rintro e w1 ⟨rfl,ah⟩;have x1:Ext P w1:=by rw[ah];exact(Xe P).alloc _
  have nP:w1.heap[P.heap.size]? =E (cl #[V z p.n cap,V B p.rows.length I] 61):=by rw[ah];exact zC P _
  have m3:=(x1.block _ bG).trans h3;have mS:=(x1.block _ bK).trans hS;have ch:=(zd.1 nP).1;clear ah c0 c1 h3 hS;gi_wp2;refine ze6 (zrq p cs rs bc gR z B cap I P.heap.size hp aS.out) rfl (qW func143 kr rfl) (fun k v W=>by rintro⟨r,rfl,_⟩;rfl)
   (BgI w1 w.heap.size d fa q o p.n (T.rowsS p)) (fun _ _ _=>False) (fun b=>b=d) ?hI ?hIx ?hI2 ?hIx2 ?hC ?h0 ?round ?done ?stop
  case hI=>
   rintro k M A bi ⟨rv,N,g1,g2,ar⟩ hk;exact⟨rv,N,g1.keep hk,g2,fun i Q r m X=>(ar i Q r m X).keep hk⟩
  case hIx=>exact fun _ _ _ _ h _=>h
  case hI2=>
   rintro k M A bi ⟨rv,N,g1,g2,ar⟩ hw;exact⟨rv,N,g1.priv hw dc dc,g2,fun i Q r m X=>(ar i Q r m X).wr hw (fun b l=>l.num)⟩
  case hIx2=>exact fun _ _ _ _ h _=>h
  case hC=>
   rintro k M A ⟨rv,N,g1,g2,ar⟩;have ai:=qk (xV.trans x1) g1.1 (fun b l=>by rcases l with e|e<;>omega);have nA:=g1.1.some nP (fun e=>by rcases e with e|e<;>omega);refine⟨⟨c_ 0 nA,c_ 1 nA,bw.out.ext ai⟩,fun x F=>⟨g1.lt x F,?_⟩⟩;obtain⟨f1,f2⟩:=g1.far (zhT (zb0 g1.2.2.1)) x F;exact zcN.of (fun m=>by
    rcases f2 with f2|f2
    ·exact absurd (m.one f2) dc
    ·exact absurd (m.one f2) dc) f1
  case h0=>exact⟨V O 0 0,[],GrJ.start mS,rfl,fun i Q r m=>by simp at m⟩
  case round=>
   rintro l2 k v M A cf ⟨⟨⟨ra,rl,rc⟩,⟨rb,sa,sl,sc⟩⟩,rfl,_,bb,b7⟩ ⟨rv,N,t,a2,ab⟩;have ai:=qk (xV.trans x1) t.1 (fun b l=>by rcases l with e|e<;>omega);have ce:k<20:=om;obtain⟨a4,u,af⟩:=t.2.2.1.shape;rw[zm,a2]at af;subst af;have a8:=zf t;have aA:=zf ab;have aT:=zf b7;have bF:=zf bb;have a5:=zf a2;have c6:=t.1.size;have aH:=(zd.1 t.2.1).1;simp only[RW.val,RW.fv,WT.sv];clear ab b7 bb;unfold Zz;gi_wp2;refine⟨Xf ((Xe A).alloc _),fun A2 aI=>?_⟩;have aN:=(zn.alloc w1.heap.size A (cl #[V ra rl rc,G rb,V sa sl sc] 115)).trans aI;have e0:=aI.block _ _ (zC A (cl #[V ra rl rc,G rb,V sa sl sc] 115)) (.inr rfl);have c5:=aI.size;simp only[zL]at c5;have au:=a8.out.keep aN;have ax:∀b,(V a4 k u).ownBlock=E b->b<A.heap.size/\b≠d/\(b=d\/w1.heap.size<=b):=fun b l=>⟨(a8.out.2.2.1.type b l).1.lt,a8.out.2.2.2.1 b l⟩
   have aJ:=au.1.some m3 (fun e=>by rcases e with e|e<;>omega);obtain⟨aX,b9⟩:=GrJ.put (i:=2) (x:=it Xb ((k:Int)+1)) (bx':=bgX fa q o p.n (k+1)) au (by simp[bgX]);have a1:=au.2.1;simp only[bgX]at a1;have p2:=c_ 2 a1;have f2:=Xg (j:=2) a1;have p3:=c_ 0 aJ;have ak:=zf aJ;have bp:=zf e0;have ad:=zf aX;have ae:=zf b9;clear t au aX b9 aJ e0 a1;refine ZW ?_;refine zcP (fun K2 aY=>?_);have br:=zf aY;clear aY;refine Qt (by rfl) (fun⟨a,w,h⟩=>h) ?_;go_wp2_with fail
   refine br.out _ _ ?_;clear p2 p3 f2;generalize World.setCell _ _ _=Z at *;have ci:=ae.out.size;have j3:=ae.out.some ak.out (fun e=>om);have jE:=ae.out.some bp.out (fun e=>om);have jS:=ad.out.2.1;simp only[bgX]at jS;have aj:Hid (∀W,Wr (fun b=>(V a4 k u).ownBlock=E b) Z W->W.cell? (Xd g3 0 O)=E (pn (E (Xd d 0 O)))/\W.cell? (Xd d 3 O)=E (V a4 k u)/\W.cell? (Xd d 2 O)=E (it Xb (((k+1:Nat)):Int))/\W.cell? (Xd A.heap.size 0 O)=E (V ra rl rc)/\W.cell? (Xd A.heap.size 1 O)=E (G rb)/\W.cell? (Xd A.heap.size 2 O)=E (V sa sl sc)):=fun W hW=>by
    have q3:=hW.some j3 (fun e=>by have:=ax _ e;omega);have qS:=hW.some jS (fun e=>(ax _ e).2.1 rfl);have qE:=hW.some jE (fun e=>by have:=ax _ e;omega);exact⟨c_ 0 q3,c_ 3 qS,c_ 2 qS,c_ 0 qE,c_ 1 qE,c_ 2 qE⟩
   have bq:Hid (∀W,Wr (fun b=>(V a4 k u).ownBlock=E b) Z W->W.frozen? (Xd d 3 O)=false):=fun W hW=>Xg (hW.some jS (fun e=>(ax _ e).2.1 rfl))
   have bs:=zf (fun(A4 A8:H) (g8 aq:Nat) hx4 own grow an dig=>ad.out.more (A2:=Z) (A4:=A4) (A5:=A8) (g5:=g8) (cap5:=aq) (j:=3) (u:=(⟨(ra,rl,rc),⟨rb,sa,sl,sc⟩,((k+1:Nat):Int)⟩:NT)) (zn.refl _ _) hx4 om own rfl grow an dig rfl);have x7:Ext Z (Z.drew.alloc (cl #[V ra rl rc,G rb,V sa sl sc,it Xb ((k+1:Nat):Int)] 117)):=(Xe Z).drew.alloc _;have b6:=(ad.out.2.2.1.ext x7).own;rw[zm,a5.out]at b6;have bQ:=(ad.out.2.2.1.ext x7).dig;clear jS jE j3;refine zdM 15 (S:=fun W=>W.cell? (Xd g3 0 O)=E (pn (E (Xd d 0 O)))/\W.cell? (Xd d 3 O)=E (V a4 k u)/\W.cell? (Xd d 2 O)=E (it Xb (((k+1:Nat)):Int))/\W.cell? (Xd A.heap.size 0 O)=E (V ra rl rc)/\W.cell? (Xd A.heap.size 1 O)=E (G rb)/\W.cell? (Xd A.heap.size 2 O)=E (V sa sl sc)) hm (by rfl) (fun⟨a,w,h⟩=>h) (aj.out Z (Xi _ _)) (h:=fun C=>?_);refine tkl [0,1,2,3,4,5,6,7,8,9,10] ?_;refine rd1 11 fun K f=>?_;go_simp;refine f.out _ _ (aj.out _ (Xf x7)) (h:=fun C=>?_);clear f K;refine rd1 12 fun K f=>?_;refine QM _ rfl (.tmp 26) (.tmp 33) 131 rfl w.heap.size 117 i0 (ag #[V O 0 0,G false,V O 0 0,it Xb 0]) 4 64 underlying131 b3 c7 ba c8 rfl dc (V a4 k u) k (N.map NT.cells).flatten rfl b6 ⟨Z.heap.size,0,O⟩ 1 1 [V ra rl rc,G rb,V sa sl sc,it Xb ((k+1:Nat):Int)] rfl rfl (rec_new Z.drew [V ra rl rc,G rb,V sa sl sc,it Xb ((k+1:Nat):Int)] 117) (by intro bh hu;simp only[zI,zY,Zp]at hu;rcases hu with rfl|rfl|rfl|rfl<;>rfl) om mo om (by have:=ai.size;simp;omega) (Z.heap.size+1) sp (by intro bh hu;simp[Value.cells]at hu;rcases hu with rfl|rfl|rfl|rfl<;>(intro n e;cases e)) (by intro bh hu;simp only[zI,zY,Zp]at hu;rcases hu with rfl|rfl|rfl|rfl<;>(intro n e;cases e)) bQ ?_;intro g8 aq A8 be aC an c9 aV;have x8:=(Xf x7).trans (Qh aC (fun g hg=>hg));have bf:A8.ownsRow w.heap.size 117 4 (V (E (Xd g8 0 O)) (N.length+1) aq) (N.length+1) ((N.map NT.cells).flatten++NT.cells ⟨(ra,rl,rc),⟨rb,sa,sl,sc⟩,((k+1:Nat):Int)⟩):=by rw[a5.out];exact be
   have HF:=zf (bs.out _ A8 g8 aq (Xf x7) bf aC (an.imp id (fun e=>so)) aV);rw[a5.out]at HF;have s8:=(aj.out _ x8).2.1;clear be bf aC an c9 aV;refine f.out _ _ (aj.out _ x8) (h:=fun C=>?_);clear f K;refine tkl [13,14] ?_;have f8:=bq.out _ x8;refine zV kr (zdB (h:=?_)) _;go_simp;obtain⟨bd,M',m2,ca⟩:=HF.out;have bT:∀b,b=d->¬qQ A2 b 75/\qK A2 b:=fun b l=>by
    obtain⟨q1,J⟩:=(a8.out.keep aN).far (zhT (by intro aL e;cases e)) b ((a8.out.2.2.2.2 b).2 (.inl l));exact⟨fun m=>by
     rcases J with J|J
     ·exact absurd (m.one J) dc
     ·exact absurd (m.one J) dc,q1⟩
   have bU:∀b,M b->¬qQ (Z.drew.alloc (cl #[V ra rl rc,G rb,V sa sl sc,it Xb ((k+1:Nat):Int)] 117)) b 75/\qK (Z.drew.alloc (cl #[V ra rl rc,G rb,V sa sl sc,it Xb ((k+1:Nat):Int)] 117)) b:=fun b l=>by
    obtain⟨q1,J⟩:=(ad.out.keep (zn.of_below x7)).far (zhT (by intro aL e;cases e)) b l;exact⟨fun m=>by
     rcases J with J|J
     ·exact absurd (m.one J) dc
     ·exact absurd (m.one J) dc,q1⟩
   have b8:∀(Q:NT) (r:qO),zaP A Q r->zaP _ Q r:=fun Q r h=>((((h.keep aN).wr ae.out bT).ext x7).wr bd bU)
   refine⟨(((ae.out.mono fun b l=>(a8.out.2.2.2.2 b).2 (.inl l)).trans (Xf x7)).trans bd),M',⟨_,_,m2,by simp[a5.out],fun i Q r m X=>?_⟩,fun x F=>(ca x F).imp id (fun e=>om)⟩;by_cases hi:i<k
   ·rw[zS (by rw[a5.out];exact hi)]at m;exact b8 Q _ (aA.out i Q r m X)
   ·have bX:=(zo.1 m).1;rw[zM,ZH,a5.out]at bX;have bW:i=k:=om;subst bW;rw[zG (by rw[a5.out];omega),a5.out,Qn]at m;simp only[zcR,qN]at m;subst m;rw[bF.out]at X;cases X;exact b8 _ _ ⟨aT.out.1,aT.out.2,rfl⟩
  case done=>
   rintro D' M A hD-⟨rv,N,t,a2,ab⟩ hd;subst hD;have ai:=qk (xV.trans x1) t.1 (fun b l=>by rcases l with e|e<;>omega);have cn:Ext P A\/True:= .inr trivial;obtain⟨a4,u,af⟩:=t.2.2.1.shape;rw[zm,a2]at af;subst af;obtain⟨g,rfl,hcap⟩:∃g,a4=E (Xd g 0 O)/\(T.rowsS p).length<=u:=by
    obtain⟨_,h1|⟨g,_,_,hv,_,_,bY,_⟩⟩:=t.2.2.1.own
    ·have:=h1.1;simp only[qp]at this;omega
    ·simp only[qp]at hv;rw[zm]at bY hv;exact⟨g,hv.1,om⟩
   have aK:Zo A (V fa q o) p.mx:=(bD.out.ext x1).wr t.1 (fun b l=>by
    have bM:b=d:=by rcases l with e|e<;>exact e
    rw[bM];exact⟨fun m=>absurd (m.one ⟨_,_,mS⟩) dc,zE mS (zhT (fa:=fa) (fl:=q) (fc:=o) (n:=p.n) (k:=0) (v:=V O 0 0) (by intro aL e;cases e))⟩)
   have ay:=t.1.some m3 (fun e=>by rcases e with e|e<;>omega);have c6:=t.1.size;have aH:=(zd.1 t.2.1).1;have av:=t.2.1;simp only[bgX]at av;have bz:Hid (∀W,Ext A W->RowsM W (V (E ⟨g,((T.rowsS p).length-2*p.n)*4,O⟩) (N.drop ((T.rowsS p).length-2*p.n)).length (u-((T.rowsS p).length-2*p.n))) ((jf p).drop ((T.rowsS p).length-2*p.n)) (N.drop ((T.rowsS p).length-2*p.n))):=fun W F=>by
    have hl:=(t.2.2.1.list.ext F).from (lo:=(T.rowsS p).length-2*p.n) (by rw[zm,a2]) om;refine⟨by rw[Za,Za,zhU,a2],?_,fun i Q r m X=>?_⟩
    ·rw[Za,a2,List.map_drop];exact hl
    ·rw[Jo]at m X;obtain⟨q1,J⟩:=zkT X;have:=(ab _ Q _ m q1).ext F;obtain⟨r1,r2⟩:=r;simp only at q1 J;subst J;exact this
   have aQ:=zf (fun W (F:Ext A W) bt l=>zpE hc W (fa,q,o) p.mx (aK.ext F) b5 bZ bL (N.drop ((T.rowsS p).length-2*p.n)) ((jf p).drop ((T.rowsS p).length-2*p.n)) (E ⟨g,((T.rowsS p).length-2*p.n)*4,O⟩) (u-((T.rowsS p).length-2*p.n)) bt l (bz.out W F) (by rw[Za,zhU];omega) (fun r X=>c4 r (zak X)) bR);rw[bV]at aQ;have az:Hid (∀W,Ext A W->W.cell? (Xd g3 0 O)=E (pn (E (Xd d 0 O)))/\W.cell? (Xd d 0 O)=E (V fa q o)/\W.cell? (Xd d 1 O)=E (it Xb (p.n:Nat))/\W.cell? (Xd d 2 O)=E (it Xb ((T.rowsS p).length:Int))/\W.cell? (Xd d 3 O)=E (V (E (Xd g 0 O)) (T.rowsS p).length u)):=fun W F=>by
    have q3:=(F.block _ (zd.1 ay).1).trans ay;have qS:=(F.block _ aH).trans av;exact⟨c_ 0 q3,c_ 0 qS,c_ 1 qS,c_ 2 qS,c_ 3 qS⟩
   have cj:∀W:H,(Instr.slice 131 (V (E (Xd g 0 O)) (T.rowsS p).length u) (E (it Xb (((T.rowsS p).length:Int)-2*(p.n:Int)))) O O).run pg W= .ok (V (E ⟨g,((T.rowsS p).length-2*p.n)*4,O⟩) (N.drop ((T.rowsS p).length-2*p.n)).length (u-((T.rowsS p).length-2*p.n))) W:=fun W=>by
    have b2:Tryz.prog.elem 131=117:=by simp[Program.elem,underlying131]
    rw[run_slice_l W 131 _ _ _ (by rw[b2];exact underlying131) Xb _ om om,b2];have e1:(((T.rowsS p).length:Int)-2*(p.n:Int)).toNat=(T.rowsS p).length-2*p.n:=om;rw[e1,Za,a2];have c2:¬(u=(T.rowsS p).length-2*p.n):=om;simp[go_sem,sizeOf,typeInfo,b3,ba,sliced,c2,Addr.add,Result.andThen];exact fun e=>e.symm
   have ck:IntKind.i64.wrap (2*(p.n:Int))=2*(p.n:Int):=zmi _ om om;have cm:IntKind.i64.wrap (((T.rowsS p).length:Int)-2*(p.n:Int))=((T.rowsS p).length:Int)-2*(p.n:Int):=zmi _ om om;have bo:=zf hd;have bl:=zf av;have aR:=zf t.2.2.1;have aA:=zf ab;have bC:=zf aK;have bH:=(zd.1 hd).1;have bv:=zf t.2.2.2.1;have ak:=zf ay;clear t av ay hd ab aK;gi_wp2;refine Jc (S:=fun W=>W.cell? (Xd g3 0 O)=E (pn (E (Xd d 0 O)))/\W.cell? (Xd d 0 O)=E (V fa q o)/\W.cell? (Xd d 1 O)=E (it Xb (p.n:Nat))/\W.cell? (Xd d 2 O)=E (it Xb ((T.rowsS p).length:Int))/\W.cell? (Xd d 3 O)=E (V (E (Xd g 0 O)) (T.rowsS p).length u)) hm (az.out A.drew (Xe A).drew) (fun C=>?_);refine tkl [0,1,2,3,4,5,6,7,8,9,10,11,12,13,14,15,16,17,18,19] ?_;refine rcl 20 (zgZ _ _ _ A.drew) ?_;rintro e W1 ⟨rfl,aD⟩;have y1:Ext A W1:=by rw[aD];exact(Xe A).drew.alloc _
   have aP:=zf (aQ.out W1 y1 A.heap.size (by rw[aD,Za,a2];exact c_ 0 (zC A.drew _)));simp only[sl3]at aP;clear aD;refine bk (az.out _ y1) fun C=>?_
   refine rcl 21 aP.out ?_;rintro e R ⟨⟨⟨aa,al,ac⟩,⟨oa,ol,oc⟩,⟨pa,pl,pc⟩,⟨a9,el,ec⟩⟩,aB,rfl,bN,b1,a1⟩;have y2:=y1.trans (Xh a1);have bn:=zf b1;simp only[CT.val,sl3];clear b1 a1 bN;refine bk (az.out _ y2) fun C=>?_
   refine tkl [22,23] ?_;have bS:=(y2.block _ aH).trans bl.out;have k4:=c_ 4 bS;have k5:=c_ 5 bS;have k6:=c_ 6 bS;have k7:=c_ 7 bS;have f4:=Xg (j:=4) bS;have f5:=Xg (j:=5) bS;have f6:=Xg (j:=6) bS;have f7:=Xg (j:=7) bS;have a3:Wr (fun b=>b=d) R ((((R.setCell (Xd d 4 O) (V aa al ac)).setCell (Xd d 5 O) (V oa ol oc)).setCell (Xd d 6 O) (V pa pl pc)).setCell (Xd d 7 O) (V a9 el ec)):=(((zv (U:=fun k=>k=d) rfl _).trans (zv (U:=fun k=>k=d) rfl _)).trans (zv (U:=fun k=>k=d) rfl _)).trans (zv (U:=fun k=>k=d) rfl _);have pZ:((((R.setCell (Xd d 4 O) (V aa al ac)).setCell (Xd d 5 O) (V oa ol oc)).setCell (Xd d 6 O) (V pa pl pc)).setCell (Xd d 7 O) (V a9 el ec)).heap[d]? =E (cl #[V fa q o,it Xb (p.n:Nat),it Xb ((T.rowsS p).length:Int),V (E (Xd g 0 O)) (T.rowsS p).length u,V aa al ac,V oa ol oc,V pa pl pc,V a9 el ec,V O 0 0] 134):=Xk (Xk (Xk (Xk bS)));have aF:∀b,b=d->(¬qQ R b 75/\qK R b)/\¬qQ R b 192:=fun b l=>by
    have m:qQ R b 134:=by rw[l];exact⟨_,_,bS⟩
    exact⟨⟨fun e=>absurd (e.one m) dc,by rw[l];exact zE bS (zhT (fa:=fa) (fl:=q) (fc:=o) (n:=p.n) (k:=(T.rowsS p).length) (v:=V (E (Xd g 0 O)) (T.rowsS p).length u) (by intro aL e;cases e))⟩,fun e=>absurd (e.one m) dc⟩
   have z3:=a3.some ((y2.block _ (zd.1 ak.out).1).trans ak.out) (fun e=>om);have bA:Hid (SrM ((((R.setCell (Xd d 4 O) (V aa al ac)).setCell (Xd d 5 O) (V oa ol oc)).setCell (Xd d 6 O) (V pa pl pc)).setCell (Xd d 7 O) (V a9 el ec)) w.heap.size d p.n (T.rowsS p).length p.mx (fa,q,o) ⟨(aa,al,ac),(oa,ol,oc),(pa,pl,pc),(a9,el,ec)⟩ (V (E (Xd g 0 O)) (T.rowsS p).length u) (V O 0 0) (ze7 p) aB (jf p) N [] []):=
    ⟨pZ,by have:=x0.size;omega,(bC.out.ext y2).wr a3 (fun b l=>(aF b l).1),bn.out.wr a3 aF,by rw[a2,zhU],(aR.out.ext y2).same a3.size (fun b l=>a3.block b ((aR.out.ext y2).type b l).1.lt (bv.out b l).1),fun i Q r m X=>by
     obtain⟨q1,J⟩:=zkT X;have:=((aA.out _ Q _ m q1).ext y2).wr a3 (fun b l=>(aF b l).1);obtain⟨r1,r2⟩:=r;simp only at q1 J;subst J;exact this,rfl,Xr _ _ _ _,fun i Q co m=>by simp at m⟩
   have bE:=zf (qk (ai.trans y2) a3 (fun b l=>by have:=x0.size;omega));have aO:=zf (a3.some ((y2.block _ bH).trans bo.out) (fun e=>om));have aU:=zf (Xc (c_ 0 z3) (Xc (c_ 0 pZ) (Xc (c_ 1 pZ) (Xc (c_ 2 pZ) (c_ 3 pZ)))));have c3:=c_ 0 z3;clear pZ a3 z3 bS;refine rd1 24 fun K f=>?_;go_simp;refine f.out _ _ aU.out (h:=fun C=>?_);clear f K;refine zV kr ⟨rfl,?_⟩ _;clear C aU k4 k5 k6 k7 f4 f5 f6 f7;generalize ((((R.setCell (Xd d 4 O) (V aa al ac)).setCell (Xd d 5 O) (V oa ol oc)).setCell (Xd d 6 O) (V pa pl pc)).setCell (Xd d 7 O) (V a9 el ec))=cb at *;gi_wp2;refine qh aO.out ?_;have b4:=zn.putObj (B:=w.heap.size) (.deferred O) (by have:=x0.size;omega) aO.out rfl;exact⟨pn (E (Xd d 0 O)),by simp[results,results46,go_sem],d,_,_,_,_,_,_,rfl,bA.out.keep b4,b4.below bE.out (zh _) (zh _)⟩
  case stop=>exact fun _ _ _ _ _ _ h _=>h.elim
end

section
open V4
variable {B R n:Nat}
theorem zkU(f g:Nat->List Int×Int)(k:Nat):∀n,((((List.range n).flatMap fun i=> [f i,g i]).zipIdx k).map fun x=>((x.1,x.2+1):qO))=(List.range n).flatMap fun i=> [(f i,k+2*i+1),(g i,k+2*i+2)]
 |0=>rfl
 |n+1=>by
  have a:∀m,((List.range m).flatMap fun i=> [f i,g i]).length=2*m:=by
   intro m;induction m with
   |zero=>rfl
   |succ m b=>rw[J6,ZX,zM,b];simp;omega
  rw[J6,ZX,ZX,List.zipIdx_append,Z6,zkU f g k n,a];simp
theorem zmj(p:qF):(T.rowsS p).length=zc1 p+2*p.n:=by
 unfold T.rowsS zc1;rw[zM];congr 1
 generalize p.n=m;have:∀n,((List.range n).flatMap fun i=>T.rangeRows m i (p.rg.getD i (0,0))).length=2*n:=by
  intro n;induction n with
  |zero=>rfl
  |succ n a=>rw[J6,ZX,zM,a];simp[T.rangeRows];omega
 exact this m
theorem zkV(p:qF):(jf p).drop ((T.rowsS p).length-2*p.n)=zcg (rgS p) (zc1 p) p.n:=by
 have e:(T.rowsS p).length-2*p.n=((p.rows.flatMap T.condRows).zipIdx.map fun x=>((x.1,x.2+1):qO)).length:=by
  rw[zmj,zm,List.length_zipIdx];unfold zc1;omega
 rw[e];unfold jf T.rowsS;rw[List.zipIdx_append,Z6,List.drop_left,qt];exact zkU (fun i=>(T.unitRow p.n i,(rgS p i).2)) (fun i=>((T.unitRow p.n i).map (fun z=>-z),-(rgS p i).1)) _ p.n
theorem zmV(p:qF):zb9 p.mx ((jf p).drop ((T.rowsS p).length-2*p.n))=ze7 p:=by rw[zkV];rfl
theorem zmW{p:qF}(h:zc5 p):(jx p.mx ((jf p).drop ((T.rowsS p).length-2*p.n))).length=p.n:=by
 rw[zkV];unfold jx;rw[zek h.m h.n4,zm,zah]
theorem zgt{z:Int}(h:z.natAbs<R):Lim R z:=by unfold Lim;omega
theorem zmk(a:1<=R)(n i:Nat):Zu R (T.unitRow n i):=by
 intro z a;unfold T.unitRow at a;obtain⟨_,_,rfl⟩:=qP.1 a;unfold Lim;split<;>omega
theorem znf{l:List Int}(h:Zu R l):Zu R (l.map fun z=>-z):=by
 intro z b;obtain⟨k,a,rfl⟩:=qP.1 b;exact(h k a).neg
theorem zrs{p:qF}(d:1<=R)(e:∀r∈p.rg,r.1.natAbs<R/\r.2.natAbs<R)(f:∀x∈p.rows,(∀z∈x.1,z.natAbs<R)/\x.2.2.natAbs<R):∀r∈T.rowsS p,Jm R r:=by
 intro r a;unfold T.rowsS at a;rcases zU.1 a with a|a
 ·obtain⟨x,h,a⟩:=jj.1 a;obtain⟨b,c⟩:=f x h;have b:Zu R x.1:=fun z f=>zgt (b z f)
  have c:=zgt c;unfold T.condRows at a;rcases zU.1 a with a|a
  ·split at a
   ·cases a
   ·rw[qg.1 a];exact⟨b,c⟩
  ·split at a
   ·cases a
   ·rw[qg.1 a];exact⟨znf b,c.neg⟩
 ·obtain⟨i,_,a⟩:=jj.1 a;have b:Lim R (p.rg.getD i (0,0)).1/\Lim R (p.rg.getD i (0,0)).2:=by
   rw[zk];cases he:p.rg[i]? with
   |none=>exact⟨Xp R,Xp R⟩
   |some r=>have:=e r (zx he);exact⟨zgt this.1,zgt this.2⟩
  unfold T.rangeRows at a;rcases zI.1 a with rfl|a
  ·exact⟨zmk d _ _,b.2⟩
  ·rw[qg.1 a];exact⟨znf (zmk d _ _),b.1.neg⟩
theorem zrt{base a:List (List Int×Int)}{rows:List qO}(h:SCnt n base a rows)(h1:∀r∈rows,1<=r.2):rows.length<=base.length+(n+1):=by
 have a:=h.cuts;have e:∀l:List qO,l.length=(l.filter fun r=>decide (base.length<r.2)).length+(l.filter fun r=>!decide (base.length<r.2)).length:=by
  intro l;induction l with
  |nil=>rfl
  |cons b l a=>
   rw[Qz,Qz,qi];by_cases a:base.length<b.2
   ·simp only[a,decide_true,zbu,Bool.not_true,za3,zaK,qi];omega
   ·simp only[a,decide_false,za3,zaK,Bool.not_false,zbu,qi];omega
 have a:((rows.filter fun r=>!decide (base.length<r.2)).map fun r=>r.2).length<=((List.range base.length).map (· + 1)).length:=by
  refine zfy _ _ (zbD (zaM.map _) h.nodup) (fun x c=>?_);obtain⟨r,b,rfl⟩:=qP.1 c;obtain⟨c,d⟩:=ZF.1 b;have b:=h1 r c;simp at d;exact qP.2 ⟨r.2-1,Z8.2 om,om⟩
 rw[zm,zm,zah]at a;have:=e rows;omega
theorem zpL{aims:List Int}{c:Cor}{r:Nat}(h:Qy n aims c)(b:r<5)(k:zfP n aims c r)(t:∀e∈c.edges,Jm B e.row):Zm n aims c r<=4*B:=by
 have j:=h.n4;have q:=h.pos;have a:=k.shared;have u:∀e∈c.edges,Zc aims c.over r e<c.over:=by
  intro e a;have d:=zdx h b a;have l:=zcB (rk aims (toV e.loss) r) (show(0:Int)<(c.over:Int)by omega);omega
 have o:c.edges.length<=4:=by rw[h.len];exact j
 obtain⟨e,a,s⟩:=ziD h k;have f:∃i,(Zd n aims c r).1.getD i 0≠0:=by
  refine zas fun p=>?_
  have b:=fun i=>zas fun m=>p ⟨i,m⟩
  rw[zf6 (by rw[k.len,(h.elen e a).2]) (by rw[(h.elen e a).2];exact j),b 0,b 1,b 2,b 3]at s;omega
 obtain⟨i,f⟩:=f;have d:Lim (c.edges.length*(c.over*B)) (c.edges.map fun e=>(Zc aims c.over r e:Int)*e.row.1.getD i 0).sum:=
  zkc (B:=c.over*B) c.edges fun e a=>((Xo (zcw (u e a))).mul ((t e a).1.at i))
 rw[<-k.row i,zd1,zbv,Q9,Zt,jq c.edges.length]at d;have l:=Nat.le_of_mul_le_mul_left d q;have a:Zm n aims c r<=Zm n aims c r*((Zd n aims c r).1.getD i 0).natAbs:=JM _ om;have a:c.edges.length*B<=4*B:=zZ _ o;omega
theorem zru{D K:Nat}(b:jN D K):8*(D*D)<4294967296^K/\4294967296<=4294967296^K:=by
 have c:=b.five;have a:=b.d;have b:D*D<=D*(D*(D*(D*D))):=Zr _ (JM _ (QE a (QE a a)));have b:=QE a (QE a (QE a (QE a a)));have a:K≠0:=by
  rintro rfl;rw[Nat.pow_zero]at c;omega
 refine⟨om,?_⟩;have:=ZD (show 0<4294967296 by decide) (show 1<=K by omega);rw[Nat.pow_one]at this;exact this
def GoQ (p:qF)(R N K:Nat)(rows:List qO)(k:Cor)(ls:List Zy):Prop:=
 ∃led,zcl p.n p.mx (T.rowsS p) rows k ls led/\SCnt p.n (T.rowsS p) (zh5 p) rows/\(∀r∈led,Jm (4^ls.length*R) r)/\ls.length<=N/\∀l∈ls,zaO K l
theorem zfB{a:List (List Int×Int)}{rows:List qO}(h:zeO n a rows){r:qO}(b:r∈rows):1<=r.2/\r.2<=a.length:=by
 have a:=(h r b).1;have:=jQ a.2;have:=a.1;omega
theorem zaV{N:Nat}(b:1<=R)(a:4^(N+1)*R=B){k:Nat}(c:k<=N+1):1<=4^k*R/\4^k*R<=B:=by
 refine⟨QE (zbb dc) b,?_⟩;rw[<-a];exact zZ _ (ZD dc c)
theorem goq_p{p:qF}{N K:Nat}(b:zc5 p)(e:(T.rowsS p).length<=20)(c:N=20000)(u:1<=R)(t:4^(N+1)*R=B)(d:jN (JL B) K)(a:Zu R p.mx):GoP (GoQ p R N K) (JL B) K p.n (T.rowsS p).length p.mx:=by
 have F:=zF (zaV u t (zh _)).1 (zaV u t (zh _)).2;have a0:=a.mono (by have:=(zaV u t (qo _)).2;simpa using this);obtain⟨_,_⟩:=zru d;have a:=b.n4;have I:∀{rows k b},GoQ p R N K rows k b->Fit (JL B) p.n p.mx k:=by
  rintro rows k b ⟨y,a,s,hm,w,q⟩;refine zpf a.cor.cor F a0 fun e c=>?_
  exact(hm _ (zx (a.rowsOK _ (a.cor.edge e c)).1.2)).mono (zaV u t om).2
 have S:∀{x:Nat},x<=5*(JL B*JL B)->x<4294967296^K:=fun {x} j=>om
 have Q:∀{k},Fit (JL B) p.n p.mx k->k.over<4294967296^K:=fun {k} f=>by
  have m:=f.overD;have U:JL B<=JL B*JL B:=JM _ d.d;exact S om
 refine⟨I,?_,?_,?_,?_,?_,?_,?_,?_⟩
 ·rintro rows k b ⟨y,a,s,hm,w,q⟩;have:=zrt s (fun r d=>(zfB a.rowsOK d).1);omega
 ·rintro rows k b ⟨y,a,s,hm,w,q⟩ r d;refine⟨(a.rowsOK r d).2,(hm _ (zx (a.rowsOK r d).1.2)).mono ?_⟩;exact zF (zaV u t om).2 (zdA F)
 ·rintro rows k b ⟨y,a,s,hm,w,q⟩;exact q
 ·rintro rows k b r o ⟨y,a,s,hm,w,q⟩ L j;obtain⟨h,l⟩:=zch L;exact⟨y,a.to ((zdy a.rowsOK a.cor h l).2 o j).1,s,hm,w,q⟩
 ·rintro rows k b r o L j;have f:=I o;obtain⟨y,a,s,hm,w,q⟩:=o;obtain⟨h,l⟩:=zch L;have X:=a.len;refine⟨f.pos,Q f,?_,fun a4 l=>?_⟩
  ·have m:(((k.edges.take k.edges.length).map fun e=>(e.num,-T.dotZ r.1.1 e.loss)).filter fun p=>decide (p.2≠0)).length<=((k.edges.take k.edges.length).map fun e=>(e.num,-T.dotZ r.1.1 e.loss)).length:=jB _ _;have z:((k.edges.take k.edges.length).map fun e=>(e.num,-T.dotZ r.1.1 e.loss)).length<=4:=by rw[zm,zX,f.elen];omega
   show([(r.2,(k.over:Int))]++_).length<=1000
   rw[zM,ZH];simp only at m z⊢;omega
  ·rcases zU.1 l with l|l
   ·rw[qg.1 l];have:=zfB a.rowsOK h;exact⟨by simpa using Q f,om,om⟩
   ·obtain⟨e,c,rfl⟩:=qP.1 (ZF.1 l).1;have c:=ZY c;have m:=zfB a.rowsOK (a.cor.edge e c);have U:=(hm _ (zx (a.rowsOK r h).1.2)).mono (zF (zaV u t (show b.length<=N+1 by omega)).2 (zdA F));have D:=(zcC U.1 (f.edge e c).2.2).neg;rw[(a.rowsOK r h).2]at D;simp only at m⊢;refine⟨S (zF (zd1.1 D) (zZ _ om)),om,om⟩
 ·rintro rows k b o;have f:=I o;obtain⟨y,a,s,hm,w,q⟩:=o;have X:=a.len;refine⟨f.pos,Q f,?_,fun a4 l=>?_⟩
  ·have m:(((k.edges.take k.edges.length).map fun e=>(e.num,(qT p.mx e.loss).getD 0 0)).filter fun p=>decide (p.2≠0)).length<=((k.edges.take k.edges.length).map fun e=>(e.num,(qT p.mx e.loss).getD 0 0)).length:=jB _ _;have z:((k.edges.take k.edges.length).map fun e=>(e.num,(qT p.mx e.loss).getD 0 0)).length<=4:=by rw[zm,zX,f.elen];omega
   show([]++_).length<=1000
   rw[Q7];simp only at m z⊢;omega
  ·rcases zU.1 l with l|l
   ·cases l
   ·obtain⟨e,c,rfl⟩:=qP.1 (ZF.1 l).1;have c:=ZY c;have m:=zfB a.rowsOK (a.cor.edge e c);have D:Lim (p.mx.length*(JL B*JL B)) ((qT p.mx e.loss).getD 0 0):=zcC f.aimD (f.edge e c).2.2;rw[f.aim]at D;simp only at m⊢;refine⟨S (zF (zd1.1 D) (zZ _ om)),om,om⟩
 ·rintro rows k b o L;have f:=I o;obtain⟨y,a,s,hm,w,q⟩:=o;have X:=a.len;have h:=a.cor.cor;have J:∀e∈k.edges,Jm (4^b.length*R) e.row:=fun e c=>hm _ (zx (a.rowsOK _ (a.cor.edge e c)).1.2)
  have P:∀r∈qU p.n p.mx k,r<5/\zfP p.n p.mx k r:=fun r d=>by
   obtain⟨m1,Z⟩:=(za4 h).1 d;exact⟨om,zfx h om Z⟩
  have a1:∀r∈qU p.n p.mx k,Jm B (Zd p.n p.mx k r):=fun r d=>by
   obtain⟨C,z⟩:=P r d;have:=zoO h C z J;refine this.mono ?_;have W:=(zaV u t (show b.length+1<=N+1 by omega)).2;rw[Zv,Z5 (4^b.length) 4,Zt]at W;exact W
  have a2:∀r∈qU p.n p.mx k,Qe p.mx k (Zd p.n p.mx k r) ((T.rowsS p).length+b.length+1)=E (Z1 p.n p.mx k ((T.rowsS p).length+b.length+1) r)/\∃Y a3,Exch p.n p.mx k (Zd p.n p.mx k r) ((T.rowsS p).length+b.length+1) (Z1 p.n p.mx k ((T.rowsS p).length+b.length+1) r) Y a3:=fun r d=>by
   obtain⟨C,z⟩:=P r d;obtain⟨x1,x2⟩:=zht h (r:=Zd p.n p.mx k r) z.len (num:=(T.rowsS p).length+b.length+1) (fun e c=>by have:=zfB a.rowsOK (a.cor.edge e c);simp only at this;omega);cases j:Qe p.mx k (Zd p.n p.mx k r) ((T.rowsS p).length+b.length+1)with
   |none=>
    obtain⟨e,c,_⟩:=ziD h z;have:=x1 j e c;omega
   |some c'=>
    have e1:Z1 p.n p.mx k ((T.rowsS p).length+b.length+1) r=c':=by unfold Z1;rw[j];rfl
    rw[e1];exact⟨rfl,x2 c' j⟩
  refine⟨fun r d=>?_,fun r d=>?_,fun r d=>(P r d).2.len,fun r d=>(a1 r d).mono (zdA F),fun r d=>(a2 r d).1,fun r d=>?_⟩
  ·have:=((za4 h).1 d).1;omega
  ·have:=(P r d).2.shared;omega
  ·obtain⟨-,Y,a3,x⟩:=a2 r d;refine zpf x.cor F a0 fun e c=>?_
   obtain⟨i,a2,a0⟩:=qM c;have P:(Z1 p.n p.mx k ((T.rowsS p).length+b.length+1) r).edges[i]? =E e:=by rw[zg a2,a0]
   by_cases a0:i=Y
   ·subst a0;rw[x.new]at P;cases P;exact a1 r d
   ·have d:i<k.edges.length:=by rw[h.len,<-x.cor.len];exact a2
    have Y:=zg d;rw[x.old i _ a0 Y]at P;cases P;exact(J k.edges[i] (zJ d)).mono (zaV u t om).2
 ·rintro rows k b r o L d L;have f:=I o;obtain⟨y,a,s,hm,w,q⟩:=o;have X:=a.len;have h:=a.cor.cor;have o:r∈qU p.n p.mx k:=by
   rcases zdr _ _ _ d with hm|hm
   ·exact hm
   ·cases hm
  obtain⟨m1,Z⟩:=(za4 h).1 o;have C:r<5:=om;have z:=zfx h C Z;have J:∀e∈k.edges,Jm (4^b.length*R) e.row:=fun e c=>hm _ (zx (a.rowsOK _ (a.cor.edge e c)).1.2)
  have o:4*(4^b.length*R)=4^(b.length+1)*R:=by rw[Zv,Z5 (4^b.length) 4,Zt]
  have hcut:=zoO h C z J;rw[o]at hcut;have w:=(zaV u t (show b.length+1<=N+1 by omega)).2;refine⟨_,a.cut a.cor C z,s.cut h _ (fun x j=>by have:=zfB a.rowsOK j;omega) om,fun x j=>?_,so,fun t d=>?_⟩
  ·have s:(b ++ [QX p.n p.mx k r]).length=b.length+1:=sp;rw[s];rcases zU.1 j with j|j
   ·exact(hm x j).mono (by rw[<-o];omega)
   ·rw[qg.1 j];exact hcut
  ·rcases zU.1 d with d|d
   ·exact q t d
   ·rw[qg.1 d];have b:=zpL h C z J;rw[o]at b;have d:=zF b (zF w (zdA F));have b:=Z7 f.overD d;refine⟨?_,S (by show k.over*Zm p.n p.mx k r<=_;omega),?_,fun a4 l=>?_⟩
    ·show k.over*Zm p.n p.mx k r≠0
     have:=QE h.pos z.shared;omega
    ·have m:((k.edges.map fun e=>(e.num,(Zc p.mx k.over r e:Int))).filter fun p=>decide (p.2≠0)).length<=(k.edges.map fun e=>(e.num,(Zc p.mx k.over r e:Int))).length:=jB _ _;rw[zm,f.elen]at m;show(List.filter _ _).length<=1000
     omega
    ·obtain⟨e,c,rfl⟩:=qP.1 (ZF.1 l).1;have m:=zfB a.rowsOK (a.cor.edge e c);have U:=zdx h C c;have a:=h.pos;have D:=zcB (rk p.mx (toV e.loss) r) (show(0:Int)<(k.over:Int)by omega);have W:=Q f;simp only at m⊢;refine⟨by rw[Q9];omega,om,om⟩
theorem zrv{L:Nat}{p:qF}(b:zbU L p)(a:2+p.n<=L)(l:(T.rowsS p).length<=20):∃(D K:Nat) (Q:List qO->Cor->List Zy->Prop),jN D K/\K<=200000/\Zu D p.mx/\(∀r∈jf p,r.1.1.length=p.n/\Jm D r.1)/\GoP Q D K p.n (T.rowsS p).length p.mx/\Q (jf p) (ze7 p) []:=by
 have c:=b.done a;obtain⟨R,hR⟩:∃R:Nat,(10:Nat)^40=R:=⟨_,rfl⟩;have a:1<=R:=by rw[<-hR];exact zbb dc
 have h:R<=2^134:=by rw[<-hR];decide
 have bm:=b.bm;have d:=b.bg;have e:=b.br;rw[hR]at bm d e;clear hR;obtain⟨N,hN⟩:∃N:Nat,N=20000:=⟨_,rfl⟩;obtain⟨B,hB⟩:∃B,4^(N+1)*R=B:=⟨_,rfl⟩;have f:B<=2^(2*(N+1)+134):=by rw[<-hB];exact zra h (zh _)
 have b:=zF (zaV a hB (zh _)).1 (zaV a hB (zh _)).2;have j:jN (JL B) 25100:=zrZ b f om om;have h:Zu R p.mx:=fun z f=>zgt (bm z f)
 have f:R<=B:=by have:=(zaV a hB (qo _)).2;simpa using this
 have k:=zrs a d e;refine⟨JL B,25100,GoQ p R N 25100,j,om,h.mono (zF f (zdA b)),fun r d=>?_,?_,T.rowsS p,ziG c,zhx p,fun r d=>?_,sp,fun e e=>by cases e⟩
 ·obtain⟨i,e,_⟩:=zdz.1 d;have hm:=zx e;exact⟨zjn c _ hm,(k _ hm).mono (zF f (zdA b))⟩
 ·exact goq_p c l hN a hB j h
 ·have:4^([]:List Zy).length*R=R:=sp;rw[this];exact k r d
end

section
open Go.RowKit
variable {B:Nat}{e:Ending}{w:H}
theorem zjM{L:Nat}(p:qF)(cs:List zac)(rs:List RwV)(j k:Nat)(a b:Option Addr)(cap f:Nat)(w:H)(o:B<=w.heap.size)(d:zbU L p)(c:2+p.n<=L)(h:PM p cs rs j k a b w)(F:Tab w)(cuts pivots:Nat)(t:cuts<9223372036854775808)(z:pivots<9223372036854775808):
 Calls pg 27 #[ag #[V a p.n cap,V b p.rows.length f],it Xb (cuts:Int),it Xb (pivots:Int)] w fun e w'=>SolQ B p.mx (zbF p cuts pivots) e w'/\Below w.heap.size w w':=by
 have m:=d.done c;have y:=zit d c;obtain⟨_,_,_,l,q,s,D,u,C⟩:=zrv d c y;exact zmU l q om u w o F a b p.n cap p.rows.length f (jf p) (ze7 p) C (fun W r=>zpK l p cs rs j k a b cap f W d c m.m s (by rw[zmj];omega) D (zmV p) (zmW m) (h.ext r)) cuts pivots t z
def resV:Value:=ag #[it Xb 0,V O 0 0,gS ⟨#[]⟩,it Xb 0,gS ⟨#[]⟩]
def zaj (B:Nat)(s:List UInt8)(cuts pivots:Int)(e:Ending)(w':H):Prop:=
 match JY s with
 |.error x=>e=Xa (tp #[resV,it Xb (x.1:Nat),it Xb (x.2:Nat)])
 |.ok p=>if cuts<0\/pivots<0 then e=Xa (tp #[resV,it Xb 13,it Xb 0])
  else ∃(k:Int) (a:Option Addr) (l c:Nat) (t:ByteArray) (n:Int) (g:ByteArray),e=Xa (tp #[ag #[it Xb k,V a l c,gS t,it Xb n,gS g],it Xb 0,it Xb 0])/\SolQ B p.mx (zbF p cuts.toNat pivots.toNat) (Xa (ag #[it Xb k,V a l c,gS t,it Xb n,gS g])) w'
theorem SolQ.five{aims:List Int}{o:SOut}(h:SolQ B aims o e w):∃(k:Int) (a:Option Addr) (l c:Nat) (t:ByteArray) (n:Int) (g:ByteArray),e=Xa (ag #[it Xb k,V a l c,gS t,it Xb n,gS g]):=by
 cases o using SOut.cs with
 |gr k ls=>
  obtain⟨⟨a,l,c⟩,h1,-⟩:=h;exact⟨_,a,l,c,_,_,_,h1⟩
 |no k r ls=>exact⟨_,_,_,_,_,_,_,h⟩
 |li m=>exact⟨_,_,_,_,_,_,_,h⟩
theorem SolQ.wr{aims:List Int}{o:SOut}{w':H}{U:Nat->Prop}(h:SolQ B aims o e w)(hw:Wr U w w')(hu:∀b,U b->¬qQ w b 9):SolQ B aims o e w':=by
 cases o using SOut.cs with
 |gr k ls=>
  obtain⟨p,h1,h2⟩:=h;exact⟨p,h1,h2.wr hw hu⟩
 |no k r ls=>exact h
 |li m=>exact h
theorem ziW{f:Nat}{a b c d e:Value}(h:w.heap[f]? =E (cl #[a,b,c,d,e] 30)):¬qQ w f 9:=fun f=>absurd (f.one ⟨_,_,h⟩) dc
theorem zpM(s:List UInt8)(cuts pivots:Int)(w:H)(hB:B<=w.heap.size)(ab:Tab w)(ad:-9223372036854775808<=cuts)(ae:cuts<=9223372036854775807)(ai:-9223372036854775808<=pivots)(aj:pivots<=9223372036854775807):
 Calls pg 15 #[gS ⟨s.toArray⟩,it Xb cuts,it Xb pivots] w fun e w'=>zaj B s cuts pivots e w'/\Below w.heap.size w w':=by
 obtain⟨a5,hR⟩:∃a5,a5=zaj B s cuts pivots:=⟨_,rfl⟩;rw[<-hR];have N:=zf hR;clear hR;obtain⟨r,K⟩:=new1 w (cl #[it Xb 0,V O 0 0,gS ⟨#[]⟩,it Xb 0,gS ⟨#[]⟩] 30);have a4:Hid (∀W,Calls pg 25 #[gS ⟨s.toArray⟩] W fun e w'=>Below W.heap.size W w'/\((∃u b:Nat,JY s= .error (u,b)/\0<u/\e=Xa (tp #[ag #[V O 0 0,V O 0 0],it Xb (u:Nat),it Xb (b:Nat)]))\/∃p gp vC vR,JY s= .ok p/\e=Xa (tp #[ag #[vC,vR],it Xb 0,it Xb 0])/\DQ w' gp p vC vR/\zbU (QW s).length p/\2+p.n<=(QW s).length)):=by
  intro W;by_cases hs:2000<s.length
  ·refine(zo5 s hs W).mono ?_;rintro e w' ⟨rfl,j⟩;refine⟨j,.inl ⟨4,0,?_,om,rfl⟩⟩;unfold JY;rw[zQ hs]
  ·exact read_any s om W
 obtain⟨ss,hss⟩:∃ss,(⟨s.toArray⟩:ByteArray)=ss:=⟨_,rfl⟩;rw[hss]at a4⊢;clear hss;go_enter func15,ntmps15
 go_wp2_with fail
 generalize World.alloc _ _=w0 at *;refine(a4.out w0).mono ?_;rintro e w1 ⟨F,⟨u,b,y,ha,rfl⟩|⟨p,gp,vC,vR,y,rfl,a1,S,a7⟩⟩
 ·have ah:¬((u:Int)=0):=om;have C:=zf y;have f:Ext w0 (w1.alloc (cl #[V O 0 0,V O 0 0] 61)):=(Xh F).alloc _;have c:=(f.block _ (zd.1 r).1).trans r;obtain⟨-,-,⟨t0,t1,t2,t3,t4⟩,f0,f1,f2,f3,f4⟩:=jp c (it Xb 0) (V O 0 0) (gS ⟨#[]⟩) (it Xb 0) (gS ⟨#[]⟩);have h:=zf c;have t:=zf (K.trans f);clear y ha F r c f K;go_wp2;obtain⟨a,d,-⟩:=jp h.out (it Xb 0) (V O 0 0) (gS ⟨#[]⟩) (it Xb 0) (gS ⟨#[]⟩);have k:=c_ 0 a;have l:=c_ 1 a;have m:=c_ 2 a;have o:=c_ 3 a;have q:=c_ 4 a;exact zH (v:=tp #[resV,it Xb (u:Nat),it Xb (b:Nat)]) (by simp[results,results15,go_sem,resV,k,l,m,o,q]) rfl ⟨by rw[N.out,zaj,C.out],qk t.out d (fun b j=>om)⟩
 ·obtain⟨cs,rs,bc,gR,P,Q,R,T,rfl,rfl,a2⟩:=zrk a1 S a7;have C:=zf y;have f:Ext w0 (w1.alloc (cl #[V P p.n R,V Q p.rows.length T] 61)):=(Xh F).alloc _;have c:=(f.block _ (zd.1 r).1).trans r;have z:=K.trans f;by_cases I:cuts<0\/pivots<0
  ·obtain⟨-,-,⟨t0,t1,t2,t3,t4⟩,f0,f1,f2,f3,f4⟩:=jp c (it Xb 0) (V O 0 0) (gS ⟨#[]⟩) (it Xb 0) (gS ⟨#[]⟩);have L:=zf I;have h:=zf c;have t:=zf z;clear y F r c a1 S a2 f z K;by_cases a6:cuts<0
   ·clear I;go_wp2;obtain⟨a,d,-⟩:=jp h.out (it Xb 0) (V O 0 0) (gS ⟨#[]⟩) (it Xb 0) (gS ⟨#[]⟩);have k:=c_ 0 a;have l:=c_ 1 a;have m:=c_ 2 a;have o:=c_ 3 a;have q:=c_ 4 a;exact zH (v:=tp #[resV,it Xb 13,it Xb 0]) (by simp[results,results15,go_sem,resV,k,l,m,o,q]) rfl ⟨by rw[N.out,zaj,C.out];simp only[zQ L.out],qk t.out d (fun b j=>om)⟩
   ·have a8:pivots<0:=om;clear I;go_wp2;obtain⟨a,d,-⟩:=jp h.out (it Xb 0) (V O 0 0) (gS ⟨#[]⟩) (it Xb 0) (gS ⟨#[]⟩);have k:=c_ 0 a;have l:=c_ 1 a;have m:=c_ 2 a;have o:=c_ 3 a;have q:=c_ 4 a;exact zH (v:=tp #[resV,it Xb 13,it Xb 0]) (by simp[results,results15,go_sem,resV,k,l,m,o,q]) rfl ⟨by rw[N.out,zaj,C.out];simp only[zQ L.out],qk t.out d (fun b j=>om)⟩
  ·obtain⟨D,a6⟩:∃D:Nat,cuts=(D:Int):=⟨cuts.toNat,om⟩;obtain⟨J,a8⟩:∃J:Nat,pivots=(J:Int):=⟨pivots.toNat,om⟩;subst a6 a8;have L:Hid (¬((D:Int)<0\/(J:Int)<0)):=I;have a9:=zf (zjM p cs rs bc gR P Q R T _ (zF hB z.size) S a7 (a2.ext ((Xe w1).alloc (cl #[V P p.n R,V Q p.rows.length T] 61))) (ab.below z) D J om om);have n9:=zC w1 (cl #[V P p.n R,V Q p.rows.length T] 61);have c0:=c_ 0 n9;have c1:=c_ 1 n9;have af:¬((D:Int)<0):=om;have ak:¬((J:Int)<0):=om;have t:=zf z;have h:=zf c;clear y F a1 S a2 I n9 c z K f r;go_wp2_with fail
   refine a9.out.mono ?_;rintro e w3 ⟨hq,a0⟩;obtain⟨Z,U,vl,X,vt,vn,Y,rfl⟩:=hq.five;have k7:=((Xh a0).block _ (zd.1 h.out).1).trans h.out;obtain⟨-,-,⟨t0,t1,t2,t3,t4⟩,f0,f1,f2,f3,f4⟩:=jp k7 (it Xb Z) (V U vl X) (gS vt) (it Xb vn) (gS Y);have a3:=zf k7;have aa:=zf (t.out.trans (Xh a0));have HQ:=zf hq;clear a0 hq k7 c0 c1;go_wp2;obtain⟨a,d,-⟩:=jp a3.out (it Xb Z) (V U vl X) (gS vt) (it Xb vn) (gS Y);have k:=c_ 0 a;have l:=c_ 1 a;have m:=c_ 2 a;have o:=c_ 3 a;have q:=c_ 4 a;exact zH (v:=tp #[ag #[it Xb Z,V U vl X,gS vt,it Xb vn,gS Y],it Xb 0,it Xb 0]) (by simp[results,results15,go_sem,resV,k,l,m,o,q]) rfl ⟨by rw[N.out,zaj,C.out];simp only[zO L.out];exact⟨Z,U,vl,X,vt,vn,Y,rfl,HQ.out.wr d (fun b j=>by rw[j];exact ziW a3.out)⟩,qk aa.out d (fun b j=>om)⟩
theorem zaj.form{s:List UInt8}{cuts pivots:Int}(h:zaj B s cuts pivots e w):∃(m:Int) (d:Option Addr) (o f:Nat) (q:ByteArray) (p:Int) (j:ByteArray) (a b:Int),e=Xa (tp #[ag #[it Xb m,V d o f,gS q,it Xb p,gS j],it Xb a,it Xb b]):=by
 unfold zaj at h;split at h
 ·exact⟨0,O,0,0,⟨#[]⟩,0,⟨#[]⟩,_,_,h⟩
 ·split at h
  ·exact⟨0,O,0,0,⟨#[]⟩,0,⟨#[]⟩,_,_,h⟩
  ·obtain⟨k,a,l,c,t,n,g,h,-⟩:=h;exact⟨k,a,l,c,t,n,g,_,_,h⟩
theorem zaj.wr{s:List UInt8}{cuts pivots:Int}{w':H}{U:Nat->Prop}(h:zaj B s cuts pivots e w)(l:Wr U w w')(k:∀b,U b->¬qQ w b 9):zaj B s cuts pivots e w':=by
 unfold zaj at h⊢;split at h
 ·exact h
 ·split at h
  ·rename_i a
   rw[zQ a];exact h
  ·rename_i a
   rw[zO a];obtain⟨m,c,o,d,t,n,g,f,j⟩:=h;exact⟨m,c,o,d,t,n,g,f,j.wr l k⟩
theorem zjN(s:List UInt8)(cuts pivots:Int)(w:H)(Y:B<=w.heap.size)(Z:Tab w)(F:-9223372036854775808<=cuts)(I:cuts<=9223372036854775807)(J:-9223372036854775808<=pivots)(K:pivots<=9223372036854775807):
 Calls pg 6 #[gS ⟨s.toArray⟩,it Xb cuts,it Xb pivots] w fun e w'=>zaj B s cuts pivots e w'/\Below w.heap.size w w':=by
 obtain⟨R,hR⟩:∃R,R=zaj B s cuts pivots:=⟨_,rfl⟩;obtain⟨z,o⟩:=new1 w (cl #[it Xb 0,V O 0 0,gS ⟨#[]⟩,it Xb 0,gS ⟨#[]⟩] 30);have p:=zf (zpM s cuts pivots _ (zF Y o.size) (Z.below o) F I J K);obtain⟨N,hss⟩:∃N,(⟨s.toArray⟩:ByteArray)=N:=⟨_,rfl⟩;rw[hss]at p⊢;have P:Hid (∀e W,R e W->∃(j:Int) (c:Option Addr) (k d:Nat) (m:ByteArray) (l:Int) (f:ByteArray) (r b:Int),e=Xa (tp #[ag #[it Xb j,V c k d,gS m,it Xb l,gS f],it Xb r,it Xb b])):=fun e W h=>by rw[hR]at h;exact h.form
 have S:Hid (∀(e:Ending) (W q:H) (U:Nat->Prop),R e W->Wr U W q->(∀b,U b->¬qQ W b 9)->R e q):=fun e W q U h hw hu=>by rw[hR]at h⊢;exact h.wr hw hu
 rw[<-hR]at p⊢;clear hss F I J K hR;go_enter func6,ntmps6
 go_wp2_with fail
 generalize World.alloc _ _=w0 at *;have T:=zf o;clear o;refine p.out.mono ?_;rintro e w3 ⟨u,t⟩;obtain⟨j,c,k,d,m,l,f,r,b,rfl⟩:=P.out _ _ u;have y:=((Xh t).block _ (zd.1 z).1).trans z;obtain⟨-,-,⟨_,_,_,_,_⟩,_,_,_,_,_⟩:=jp y (it Xb j) (V c k d) (gS m) (it Xb l) (gS f);have C:=zf y;have X:=zf (T.out.trans (Xh t));have Q:=zf u;clear t u y z;go_wp2;obtain⟨a,L,-⟩:=jp C.out (it Xb j) (V c k d) (gS m) (it Xb l) (gS f);have j0:=c_ 0 a;have j1:=c_ 1 a;have j2:=c_ 2 a;have j3:=c_ 3 a;have j4:=c_ 4 a;exact zH (v:=tp #[ag #[it Xb j,V c k d,gS m,it Xb l,gS f],it Xb r,it Xb b]) (by simp[results,results6,go_sem,j0,j1,j2,j3,j4]) rfl ⟨S.out _ _ _ _ Q.out L (fun b D=>by rw[D];exact ziW C.out),qk X.out L (fun b D=>om)⟩
theorem far_eq:(1099511627776:Int).toNat=1099511627776:=rfl
theorem zpN(s:List UInt8)(p:qF)(hs:JY s= .ok p)(w:H)(X:B<=w.heap.size)(Y:Tab w):
 Calls pg 12 #[gS ⟨s.toArray⟩] w fun e w'=>(∃(k:Int) (a:Option Addr) (l c:Nat) (t:ByteArray) (n:Int) (g:ByteArray),e=Xa (tp #[ag #[it Xb k,V a l c,gS t,it Xb n,gS g],G true])/\SolQ B p.mx (zbF p 1099511627776 1099511627776) (Xa (ag #[it Xb k,V a l c,gS t,it Xb n,gS g])) w')/\Below w.heap.size w w':=by
 obtain⟨D,z⟩:=new1 w (cl #[it Xb 0,V O 0 0,gS ⟨#[]⟩,it Xb 0,gS ⟨#[]⟩] 30);have K:=zf (zjN s 1099511627776 1099511627776 _ (zF X z.size) (Y.below z) dc dc dc dc);have S:=zf hs;obtain⟨Q,hss⟩:∃Q,(⟨s.toArray⟩:ByteArray)=Q:=⟨_,rfl⟩;rw[hss]at K⊢;clear hss hs;go_enter func12,ntmps12
 go_wp2_with fail
 generalize World.alloc _ _=w0 at *;have U:=zf z;clear z;refine K.out.mono ?_;rintro e F ⟨b,N⟩;unfold zaj at b;rw[S.out]at b;simp only at b;rw[zO dc]at b;obtain⟨j,d,m,f,q,o,h,rfl,b⟩:=b;rw[far_eq]at b;have I:Ext w0 (F.alloc (cl #[it Xb j,V d m f,gS q,it Xb o,gS h] 30)):=(Xh N).alloc _;have r:=zC F (cl #[it Xb j,V d m f,gS q,it Xb o,gS h] 30);have i0:=c_ 0 r;have i1:=c_ 1 r;have i2:=c_ 2 r;have i3:=c_ 3 r;have i4:=c_ 4 r;have C:=(I.block _ (zd.1 D).1).trans D;obtain⟨-,-,⟨_,_,_,_,_⟩,_,_,_,_,_⟩:=jp C (it Xb j) (V d m f) (gS q) (it Xb o) (gS h);have J:=zf C;have W:=zf (U.out.trans I);have R:=zf (b.wr (Xf (T:=fun _=>False) ((Xe F).alloc (cl #[it Xb j,V d m f,gS q,it Xb o,gS h] 30))) (fun L y=>y.elim));clear N b C D r I;go_wp2;obtain⟨u,P,-⟩:=jp J.out (it Xb j) (V d m f) (gS q) (it Xb o) (gS h);have Z:=c_ 0 u;have j1:=c_ 1 u;have j2:=c_ 2 u;have j3:=c_ 3 u;have j4:=c_ 4 u;exact zH (v:=tp #[ag #[it Xb j,V d m f,gS q,it Xb o,gS h],G true]) (by simp[results,results12,go_sem,Z,j1,j2,j3,j4]) rfl ⟨⟨j,d,m,f,q,o,h,rfl,R.out.wr P (fun L y=>by rw[y];exact ziW J.out)⟩,qk W.out P (fun L y=>om)⟩
theorem zoe{v:Value}{a:List ByteArray}(h:ZS w 9 v 1 (a.map zdh)):zeX w v a:=by
 rcases h with ⟨rfl,e⟩|⟨g,off,c,b,_,d,f⟩
 ·have:a= []:=by simpa using e
  subst this;exact⟨O,0,rfl,fun h=>by simp at h⟩
 ·rw[zm]at b;refine⟨_,c,b,fun _=>⟨g,off,rfl,d.lt,fun i z a=>?_⟩⟩;have:=f i (zdh z) (by rw[zR,a];rfl) 0 (gS z) rfl;simpa using this
theorem zmX{mx lo b:List Int}{a:List (List Int)}{d rs:List Int}(c:zai mx lo b a d rs):JY (ze4 (QA mx lo b a d rs))= .ok (QA mx lo b a d rs):=by
 have h:=znX (zjC c) (zo9 (zjC c));rw[zmM]at h;exact h (zF (zmP c) dc)
