import Derived.Test.YthnopjedhcapmaaGreatDoorMvr1Z19
import Derived.Test.YthnopjedhcapmaaGreatDoorMvr1Z16
open Option renaming none->O,some->E
open Go.Value renaming slice->V,bool->G,string->gS,pointer->pn,tuple->tp,int->it,agg->ag
open Go.Obj renaming cells->cl
open Go renaming World->H
open Go.Proofs.Tryz renaming prog->pg
open Go.Proofs.Tryz
open Go.Ending renaming returned->Xa
open Go.IntKind renaming i64->Xb
open Go.Addr renaming mk->Xd
set_option linter.unusedSimpArgs false
set_option linter.unusedVariables false
set_option maxHeartbeats 8000000
set_option maxRecDepth 100000
namespace Go.Proofs.YthnopjedhcapmaaGreatDoor
section
open Go.RowKit
variable {j:Nat}{v:Value}{w:H}
theorem zpF:(Tryz.prog.info? 3).map (fun i=>(i.zero,i.size,i.bytes))=E (E (i_ 0),1,8):=kr
def intC (z:Int):List Value:= [i_ z]
theorem zse{B:Nat}{zs:L_}(h:Grw B 3 1 w v (zs.map intC)):Jf w v zs:=by
 rcases h.list with ⟨rfl,e⟩|⟨g,off,b,a,_,c,d⟩
 ·have:zs= []:=by simpa using e
  subst this;exact⟨O,0,rfl,fun h=>by simp at h⟩
 ·rw[zm]at a;refine⟨_,b,a,fun _=>⟨g,off,rfl,c.lt,fun i z a=>?_⟩⟩;have:=d i (intC z) (by rw[zR,a];rfl) 0 (i_ z) rfl;simpa using this
theorem zpG(w:H)(a:A_)(n c:Nat):(binOp .eql 22 (V a n c) (V_)).run pg w= .ok (G a.isNone) w:=zbs w _ _ a n c 0 0 underlying22
def BestV (w:H)(v:Value):Option (L_)->Prop
 |none=>v=V_
 |some y=>Jf w v y
theorem BestV.ext{w':H}{b:Option (L_)}(h:BestV w v b)(a:Ext w w'):BestV w' v b:=by
 cases b with
 |none=>exact h
 |some y=>exact Jf.ext h a
theorem zpH:∀(lo:L_) (k i:Nat) (l:Int),lo[i]? =E l->ptK lo k=(ptK lo k).take i++((l+((k/8^i%8:Nat):Int))::ptK (lo.drop (i+1)) (k/8^(i+1)))
 |[],_,_,_,h=>by simp at h
 |a::lo,k,0,l,h=>by
  simp at h;subst h;simp[ptK]
 |a::lo,k,i+1,l,h=>by
  have b:=zpH lo (k/8) i l (by simpa using h);have c:k/8/8^i=k/8^(i+1):=by rw[zc9,Zv,Z5]
  have d:k/8/8^(i+1)=k/8^(i+1+1):=by rw[zc9,Zv 8 (i+1),Z5]
  rw[c,d]at b;simp only[ptK,zaN,ZZ,List.drop_succ_cons,za5,true_and];exact b
theorem zrr(lo:L_)(k i:Nat)(l:Int)(h:lo[i]? =E l):(ptK lo k).take (i+1)=(ptK lo k).take i ++ [l+((k/8^i%8:Nat):Int)]:=by
 have a:i<(ptK lo k).length:=by rw[zaz];exact(zo.1 h).1
 have a:=zpH lo k i l h;have b:(ptK lo k)[i]? =E (l+((k/8^i%8:Nat):Int)):=by
  rw[a,zG (by rw[zX];omega),zX];have:i-min i (ptK lo k).length=0:=om;rw[this];rfl
 rw[ZB,b];rfl
theorem zgs{lo:L_}(h:∀z∈lo,z.natAbs<=99):∀k,Zu 1000000 (ptK lo k):=by
 induction lo with
 |nil=>intro k z a;simp[ptK]at a
 |cons b lo c=>
  intro k z a;rw[ptK]at a;rcases zI.1 a with rfl|a
  ·have:=h b qA;have b:k%8<8:=Z0 _ dc;unfold Lim;omega
  ·exact c (fun z a=>h z (qq _ a)) (k/8) z a
theorem zmg(w:H)(u P N L R Q:Value)(mx lo hi:L_)(B:List (L_))(ss rs:L_)(d:zc7 w u P N L R Q mx lo hi B ss rs)(o:zai mx lo hi B ss rs):
 C_ 11 #[ag #[u,P,N,L,R,Q]] w fun e w'=>∃(v:Value) (b:Option (L_)),e=Xa v/\za8 mx lo hi B ss rs (8^mx.length) b/\BestV w' v b/\b_ w w':=by
 obtain⟨i0,aW,aZ,b6,b7⟩:=Zn zpF;have bf:=zpG;have aY:∀al:Prop,Hid al->al:=fun al h=>h
 obtain⟨n0,x0⟩:=new1 w (cl #[u,P,N,L,R,Q] 25);have bj:=o.n1;have b8:=o.n3;have a0:∀k,(ptK lo k).length=mx.length:=fun k=>by rw[zaz,o.ll]
 have ab:=zf a0;have a5:Hid (∀W,Ext w W->∀(v:Value) (j:Nat),Jf W v (ptK lo j)->C_ 12 #[u,v] W fun e w'=>e=Xa (i_ (T.dotZ mx (ptK lo j)))/\b_ W w'):=fun W c v j hi=>zeW W u v mx (ptK lo j) (d.m.ext c) hi (a0 j).symm om (zkg o.bm dc) (zgs o.bl j)
 have aa:Hid (∀W,Ext w W->∀(v:Value) (j:Nat),Jf W v (ptK lo j)->C_ 18 #[ag #[u,P,N,L,R,Q],v] W fun e w'=>e=Xa (G (zcJ lo hi B ss rs (ptK lo j)))/\b_ W w'):=fun W c v j hi=>zlf W u P N L R Q v mx lo _ B ss rs (ptK lo j) (d.ext c) o hi (a0 j) (zgs o.bl j)
 have a8:Hid (∀W,Ext w W->∀(K v:Value) (i j:Nat),Jf W K (ptK lo i)->Jf W v (ptK lo j)->C_ 19 #[ag #[u,P,N,L,R,Q],K,v] W fun e w'=>e=Xa (G (za6 mx (ptK lo i) (ptK lo j)))/\b_ W w'):=fun W c K v i j h1 h2=>zk8 W u P N L R Q K v mx (ptK lo i) (ptK lo j) (d.m.ext c) h1 h2 (a0 i) (a0 j) om
 have a9:=zf o.ll;have aP:=zf o.bl;obtain⟨_,mc,rfl,aL⟩:=d.m;obtain⟨_,_,rfl,af⟩:=d.l;obtain⟨_,_,rfl,-⟩:=d.h;obtain⟨_,_,rfl,-⟩:=d.g;obtain⟨_,_,rfl,-⟩:=d.s;obtain⟨_,_,rfl,-⟩:=d.r;rw[o.ll]at af n0 x0 aa a8⊢;obtain⟨_,_,rfl,-,aH⟩:=af om;have aR:=zf aH;obtain⟨gM,oM,rfl,-,-⟩:=aL om;clear aH;obtain⟨hil,hHl⟩:∃h,h=hi.length:=⟨_,rfl⟩;obtain⟨gsl,hGl⟩:∃h,h=B.length:=⟨_,rfl⟩;obtain⟨ssl,hSl⟩:∃h,h=ss.length:=⟨_,rfl⟩;obtain⟨rsl,hRl⟩:∃h,h=rs.length:=⟨_,rfl⟩;rw[<-hHl,<-hGl,<-hSl,<-hRl]at n0 x0 aa a8⊢;clear hHl hGl hSl hRl d o aL af a0;go_enter func11,ntmps11
 go_wp2;generalize World.alloc _ _=w0 at *;go_loopw [5,6] (fun av iv wr=>∃(i q:Nat),i<=mx.length/\av=i_ (q:Nat)/\iv=i_ (i:Nat)/\Hid (q=8^i)/\Ext w0 wr) (fun _ iv _=>((mx.length:Int)-intOf iv).toNat)
 case atStart=>exact⟨0,1,om,rfl,rfl,rfl,Xe _⟩
 case round=>
  obtain⟨i,q,_,rfl,rfl,HA,xr⟩:=hrel;by_cases bd:i<mx.length
  ·have bb:q<=64:=by
    rw[HA.out];exact zF (ZD dc (show i<=2 by omega)) dc
   go_wp2;go_roundw
   case rel=>exact⟨i+1,q*8,om,by go_num,by go_num,by rw[Hid,HA.out,Zv],xr⟩
   case measure=>simp[intOf];omega
  ·obtain rfl:i=mx.length:=om;have ba:q<=512:=by
    rw[HA.out];exact zF (ZD dc b8) dc
   go_wp2;go_loopw [3,7] (fun bv kv aN=>∃(k:Nat) (b:Option (L_)),k<=q/\kv=i_ (k:Nat)/\Hid (za8 mx lo hi B ss rs k b)/\Hid (BestV aN bv b)/\Ext w0 aN) (fun _ kv _=>((q:Int)-intOf kv).toNat)
   case atStart=>exact⟨0,O,om,rfl,fun j hj=>om,rfl,xr⟩
   case round=>
    obtain⟨k,b,_,rfl,p,HV,l⟩:=hrel;by_cases be:k<q
    ·go_wp2;go_loopw [8,9,10] (fun xv rv jv wi=>∃(j r:Nat),j<=mx.length/\rv=i_ (r:Nat)/\jv=i_ (j:Nat)/\Hid (r=k/8^j)/\r<=512/\Hid (Grw wr.heap.size 3 1 wi xv (((ptK lo k).take j).map intC))/\Ext wr wi) (fun _ _ jv _=>((mx.length:Int)-intOf jv).toNat)
     case atStart=>exact⟨0,k,om,rfl,rfl,by simp[Hid],om,Xt _ _ _ _,Xe _⟩
     case round=>
      obtain⟨j,r,_,rfl,rfl,ad,_,y,a⟩:=hrel;have X:=x0.trans (l.trans a);obtain⟨xs,hxs⟩:∃xs,xs=(ptK lo k).take j:=⟨_,rfl⟩;have a3:(xs.map intC).length=j:=by rw[hxs,zm,zX,ab.out];omega
      rw[<-hxs]at y;have ay:=zf hxs;clear hxs;obtain⟨va,vc,d⟩:=y.out.shape;rw[a3]at d;subst d;by_cases aX:j<mx.length
      ·have aJ:j<lo.length:=by rw[a9.out];exact aX
       have e1:=zg aJ;have c1:=X.cell (aR.out j _ e1);obtain⟨-,b1,-,-,-,-⟩:=za9 n0 (l.trans a);have bc:=aP.out _ (zx e1);have ax:=zf (zrr lo k j _ e1);rw[<-ad.out,<-ay.out]at ax;generalize lo[j]=J at *;have x3:Ext wr (wr.alloc (cl #[i_ (J+(r:Int)%8)] 3)):=(Xe wr).alloc _;have ai:=(y.out.ext x3).own;rw[a3]at ai;have aI:=(y.out.ext x3).dig;have bi:=a.size;clear e1 aJ;go_wp2_with (at_builtin;refine aY _ ?_)
       unfold Hid;refine JI _ rfl _ _ 22 rfl _ 3 i0 (i_ 0) 1 8 underlying22 aW aZ b6 b7 rfl dc (V va j vc) j _ rfl ai (y_ wr 0) 1 1 [i_ (J+(r:Int)%8)] rfl rfl (rec_new wr [i_ (J+(r:Int)%8)] 3) (by intro K C;simp only[zI,zY,Zp]at C;subst C;rfl) om mo om so (wr.heap.size+1) sp (by intro K C;simp[Value.cells]at C;subst C;intro n e;cases e) (by intro K C;simp only[zI,zY,Zp]at C;subst C;intro n e;cases e) aI ?_;intro g4 b9 A4 ak aA aT lt4 az;rw[<-a3]at ak;have a4:=(y.out.ext x3).more (cs:=intC (J+(r:Int)%8)) rfl ak az;rw[a3]at a4;have e8:J+(r:Int)%8=J+((r%8:Nat):Int):=om;have aK:xs.map intC ++ [intC (J+(r:Int)%8)]=((ptK lo k).take (j+1)).map intC:=by rw[ax.out,Z6,<-e8];rfl
       rw[aK]at a4;have aQ:=zf a4;have z:=zf (zna (a.trans x3) (Qh (U:=fun b=>(V va j vc).ownBlock=E b) aA (fun b hb=>hb)) (fun b hb=>(y.out.type b hb).2));have aS:Hid (r/8=k/8^(j+1)):=by rw[Hid,ad.out,zc9,Zv]
       clear ak a4 aA aT lt4 az ai aI e8 aK;go_wp2;go_roundw
       case rel=>exact⟨j+1,r/8,om,by go_num,by go_num,aS,om,aQ,z.out⟩
       case measure=>simp[intOf];omega
      ·obtain rfl:j=mx.length:=om;have hX:=zse y.out;rw[ay.out,zP (by rw[ab.out];omega)]at hX;have z:Hid (∀W,Ext wr W->Jf W (V va mx.length vc) (ptK lo k)):=fun W c=>hX.ext c
       have a1:=zf (fun W (c:Ext wr W)=>HV.out.ext (a.trans c));have aw:=zf (aa.out wr X _ k hX);obtain⟨b0,b1,_,_,_,_⟩:=za9 n0 (l.trans a);clear hX HV y a3 ad;go_wp2_with fail
       refine aw.out.mono ?_;rintro e w2 ⟨rfl,aB⟩;have Y:=Xf aB;clear aB aw;cases hmb:zcJ lo hi B ss rs (ptK lo k)with
       |false=>
        have m:=zf (p.out.skip (fun h=>by rw[zfW.2 h]at hmb;cases hmb));clear p hmb;go_wp2;go_roundw
        case rel=>exact⟨k+1,b,om,by go_num,m,a1.out _ Y,(l.trans a).trans Y⟩
        case measure=>simp[intOf];omega
       |true=>
        have hm:=zfW.1 hmb;clear hmb;have I:Hid (∀W,Ext wr W->W.cell? (y_ w 0)=E (V (E (Xd gM oM O)) mx.length mc)):=fun W c=>(za9 n0 ((l.trans a).trans c)).1
        have au:Hid (mx.length<=4):=by rw[Hid];omega
        cases b with
        |none=>
         have aU:_=V_:=a1.out wr (Xe _);subst aU;have m:=zf (p.out.first a9.out au.out hm);clear p a1 hm;go_wp2;refine ZO (S:=fun W=>W.cell? (y_ w 0)=E (V (E (Xd gM oM O)) mx.length mc)) kr (I.out _ Y.drew) (fun f=>?_);refine tkl [0,1,2,3,4,5,6,7,8,9,10,11,12] ?_;refine zV kr ?_ _;clear f;go_wp2;go_roundw
         case rel=>exact⟨k+1,E (ptK lo k),om,by go_num,m,z.out _ Y.drew,((l.trans a).trans Y).drew⟩
         case measure=>simp[intOf];omega
        |some bl=>
         obtain⟨D,hy⟩:=p.out.2.1;subst hy;have hY:Jf wr _ (ptK lo D):=a1.out wr (Xe _);have HY:=zf (fun W (c:Ext wr W)=>hY.ext c);obtain⟨_,_,aM,aj⟩:=hY;rw[ab.out]at aM aj;obtain⟨_,_,rfl,-,-⟩:=aj om;subst aM;obtain⟨dx,hdx⟩:∃a2,a2=T.dotZ mx (ptK lo k):=⟨_,rfl⟩;obtain⟨dy,hdy⟩:∃a2,a2=T.dotZ mx (ptK lo D):=⟨_,rfl⟩;have aq:=zf hdx;have ar:=zf hdy;have t:=zf (fun h=>p.out.take a9.out au.out hm h);have s:=zf (fun h=>p.out.stay h);unfold zci at t s;rw[<-hdx,<-hdy]at t s;clear p a1 hm aj hdx hdy;have an:=Y.drew;go_wp2;refine ZO (S:=fun W=>W.cell? (y_ w 0)=E (V (E (Xd gM oM O)) mx.length mc)) kr (I.out _ Y.drew) (fun f=>?_);refine tkl [0,1,2,3,4,5,7,8,9] ?_;refine rcl 6 (a5.out _ (X.trans an) _ k (z.out _ an)) ?_;rintro e w3 ⟨rfl,aC⟩;have a6:=an.trans (Xf aC);rw[<-aq.out];refine bk (I.out _ a6) fun f=>?_
         clear aC;refine rcl 10 (a5.out _ (X.trans a6) _ D (HY.out _ a6)) ?_;rintro e w4 ⟨rfl,aD⟩;have F:=a6.trans (Xf aD);rw[<-ar.out];refine bk (I.out _ F) fun f=>?_
         clear aD;by_cases aV:dy<dx
         ·have m:=zf (t.out (.inl aV));clear t s;refine tkl [11,12] ?_;refine zV kr ?_ _;clear f;go_wp2;go_roundw
          case rel=>exact⟨k+1,E (ptK lo k),om,by go_num,m,z.out _ F,(l.trans a).trans F⟩
          case measure=>simp[intOf];omega
         ·obtain⟨q0,q1,q2,q3,q4,q5⟩:=za9 n0 ((l.trans a).trans F);refine tkl [11,12] ?_;refine zV kr ?_ _;clear f;have ap:=zf (a8.out _ (X.trans F) _ _ k D (z.out _ F) (HY.out _ F));go_wp2_with fail
          refine ap.out.mono ?_;rintro e w5 ⟨rfl,aE⟩;have aO:=F.trans (Xf aE);have ao:=aO.drew;obtain⟨ah,hah⟩:∃a2,a2=za6 mx (ptK lo k) (ptK lo D):=⟨_,rfl⟩;rw[<-hah]at t s⊢;clear aE q0 q1 q2 q3 q4 q5 hah ap;go_wp2;refine ZO (S:=fun W=>W.cell? (y_ w 0)=E (V (E (Xd gM oM O)) mx.length mc)) kr (I.out _ aO.drew) (fun f=>?_);refine tkl [0,1,2,4,5,6] ?_;refine rcl 3 (a5.out _ (X.trans ao) _ k (z.out _ ao)) ?_;rintro e w6 ⟨rfl,aF⟩;have a7:=ao.trans (Xf aF);rw[<-aq.out];refine bk (I.out _ a7) fun f=>?_
          clear aF;refine rcl 7 (a5.out _ (X.trans a7) _ D (HY.out _ a7)) ?_;rintro e w7 ⟨rfl,aG⟩;have Z:=a7.trans (Xf aG);rw[<-ar.out];refine bk (I.out _ Z) fun f=>?_
          clear aG;by_cases ae:dx=dy
          ·cases ah with
           |true=>
            have m:=zf (t.out (.inr ⟨ae,rfl⟩));clear t s;refine tkl [8,9,10,11] ?_;refine zV kr ?_ _;clear f;go_wp2;go_roundw
            case rel=>exact⟨k+1,E (ptK lo k),om,by go_num,m,z.out _ Z,(l.trans a).trans Z⟩
            case measure=>simp[intOf];omega
           |false=>
            have m:=zf (s.out (fun h=>by rcases h with h|⟨-,h⟩;omega;cases h));clear t s;refine tkl [8,9,10,11] ?_;refine zV kr ?_ _;clear f;go_wp2;go_roundw
            case rel=>exact⟨k+1,E (ptK lo D),om,by go_num,m,HY.out _ Z,(l.trans a).trans Z⟩
            case measure=>simp[intOf];omega
          ·have m:=zf (s.out (fun h=>by rcases h with h|⟨h,-⟩<;>omega));have bg:(dx == dy)=false:=by simp[ae]
           have bh:decide (dx=dy)=false:=J2 ae;clear t s;refine tkl [8,9,10,11] ?_;refine zV kr ?_ _;clear f;go_wp2;go_roundw
           case rel=>exact⟨k+1,E (ptK lo D),om,by go_num,m,HY.out _ Z,(l.trans a).trans Z⟩
           case measure=>simp[intOf];omega
    ·obtain rfl:k=q:=om;rw[HA.out]at p;go_wp2;go_ret;exact⟨_,b,rfl,p.out,HV.out,x0.trans l⟩
def IsV (mx:L_)(kind:Int)(pts:List ByteArray)(val:ByteArray):Option (L_)->Prop
 |none=>kind=2/\pts= []/\val=⟨#[]⟩
 |some x=>kind=1/\pts=x.map zb1/\val=zb1 (T.dotZ mx x)
theorem zeX.ext{w':H}{zs:List ByteArray}(h:zeX w v zs)(hb:Ext w w'):zeX w' v zs:=by
 obtain⟨a,b,rfl,c⟩:=h;refine⟨a,b,rfl,fun a=>?_⟩;obtain⟨g,off,rfl,d,b⟩:=c a;exact⟨g,off,rfl,zK d hb.size,fun i z a=>hb.cell (b i z a)⟩
theorem zpI{mx lo:L_}(b:∀z∈mx,z.natAbs<=6)(a:lo.length=mx.length)(d:mx.length<=3)(hb:∀z∈lo,z.natAbs<=99):Lim 18000000 (T.dotZ mx (ptK lo j)):=by
 have a:Zu 6 mx:=fun z c=>by have:=b z c;unfold Lim;omega
 exact(zcC a (zgs hb j)).mono (zF (zZ _ d) dc)
theorem zpJ(z:Int):((zb1 z).toList == (zb1 z).toList)=true:=sp
attribute [local go_sem] zD zW qJ
structure GoP (Q:List qO->Cor->List Zy->Prop)(D K n given:Nat)(aims:L_):Prop where
 fit:∀{rows k ls},Q rows k ls->Fit D n aims k
 rowsn:∀{rows k ls},Q rows k ls->rows.length<=1000
 rowd:∀{rows k ls},Q rows k ls->∀r∈rows,r.1.1.length=n/\Jm D r.1
 lines:∀{rows k ls},Q rows k ls->∀l∈ls,zaO K l
 exch:∀{rows k ls r k'},Q rows k ls->Qv k rows=E r->Qe aims k r.1 r.2=E k'->Q rows k' ls
 none:∀{rows k ls r},Q rows k ls->Qv k rows=E r->Qe aims k r.1 r.2=Option.none->zaO K (zcn k r)
 great:∀{rows k ls},Q rows k ls->zaO K (endG aims k)
 cuts:∀{rows k ls},Q rows k ls->Qv k rows=Option.none->CutsOK D n aims k (given+ls.length+1)
 next:∀{rows k ls r},Q rows k ls->Qv k rows=Option.none->jF n aims k (given+ls.length+1) (qU n aims k) Option.none=E r->ls.length<20000->Q (jw k given rows ++ [(Zd n aims k r,given+ls.length+1)]) k (ls ++ [QX n aims k r])
theorem zhS{aims:L_}{rows:List qO}:∀(f:Nat) (c c':Cor),ZV aims rows f c= .inl c'->Qv c' rows=O:=by
 intro f;induction f using Nat.strongRecOn with
 |_ f d=>
  intro c c' h;rw[zhP]at h;cases hb:Qv c rows with
  |none=>
   rw[hb]at h;cases h;exact hb
  |some r=>
   rw[hb]at h;simp only at h;cases hx:Qe aims c r.1 r.2 with
   |none=>rw[hx]at h;cases h
   |some b=>
    rw[hx]at h;simp only at h;by_cases a:f=0
    ·rw[zQ a]at h;cases h
    ·rw[zO a]at h;exact d (f-1) om b c' h
theorem zod(n:Nat)(aims:L_)(given pivots f:Nat)(rows:List qO)(c:Cor)(a:List Zy):goS n aims given pivots f rows c a=match ZV aims rows pivots c with
 |.inr (.inr _)=> .inr (.inr a.length)
 |.inr (.inl (c,r))=> .inr (.inl (c,r,a))
 |.inl c'=>match jF n aims c' (given+a.length+1) (qU n aims c') Option.none with
  |Option.none=> .inl (c',a)
  |some r=>if f=0 then .inr (.inr a.length)else goS n aims given pivots (f-1) (jw c' given rows ++ [(Zd n aims c' r,given+a.length+1)]) c' (a ++ [QX n aims c' r]):=by
 cases f with
 |zero=>rw[goS];rfl
 |succ f=>rw[goS];rfl
def SolQ (B:Nat)(aims:L_)(res:SOut)(e:Ending)(w':H):Prop:=
 match res with
 |.inl (k,ls)=>∃p:S_,e=Xa (ag #[i_ 1,sl3 p,gS (zT (T.dotZ aims (ptS k))),i_ (ls.length:Int),gS ⟨(zab ls (endG aims k)).toArray⟩])/\Grw B 9 1 w' (sl3 p) (((ptS k).map zT).map zdh)
 |.inr (.inl (k,r,ls))=>e=Xa (ag #[i_ 2,V_,gS ⟨#[]⟩,i_ (ls.length:Int),gS ⟨(zab ls (zcn k r)).toArray⟩])
 |.inr (.inr m)=>e=Xa (ag #[i_ 3,V_,gS ⟨#[]⟩,i_ (m:Int),gS ⟨#[]⟩])
def lenAt (w:H)(g j:Nat):Nat:=match w.cell? (Xd g j O)with
 |some (V _ l _)=>l
 |_=>0
theorem zmh{g l:Nat}{a:A_}{c:Nat}(h:w.cell? (Xd g j O)=E (V a l c)):lenAt w g j=l:=by
 unfold lenAt;rw[h]
theorem zmU{D K n given:Nat}(hc:jN D K)(aE:K<=200000)(bb:given<=1000){aims:L_}{Q:List qO->Cor->List Zy->Prop}(hQ:GoP Q D K n given aims)(w:H){B:Nat}(hB:B<=w.heap.size)(aJ:Tab w)(ao ap:A_)(aq cap pm kp:Nat)(s:List qO)(p:Cor)(b1:Q s p [])(b5:∀W,Ext w W->C_ 45 #[ag #[V ao aq cap,V ap pm kp]] W fun e w'=>∃l a c rv cv av ay,e=Xa (p_ l 0)/\SrM w' W.heap.size l n given aims a c rv cv p av s ay [] []/\b_ W w')(cuts pivots:Nat)(bn:cuts<9223372036854775808)(bd:pivots<9223372036854775808):
 C_ 28 #[ag #[V ao aq cap,V ap pm kp],i_ (cuts:Int),i_ (pivots:Int)] w fun e w'=>SolQ B aims (goS n aims given pivots (min cuts 20000) s p []) e w'/\b_ w w':=by
 obtain⟨N,hN⟩:∃N,min cuts 20000=N:=⟨_,rfl⟩;have HN:=zf hN;rw[hN];have bl:N<=20000:=om;have k:=zf hQ;have aO:=zf b5;obtain⟨aM,n6⟩:=Xk w (cl #[V ao aq cap,V ap pm kp] 73) (cl #[i_ 0,V_,gS ⟨#[]⟩,i_ 0,gS ⟨#[]⟩] 35);have I:Ext w ((w.alloc (cl #[V ao aq cap,V ap pm kp] 73)).alloc (cl #[i_ 0,V_,gS ⟨#[]⟩,i_ 0,gS ⟨#[]⟩] 35)):=((Xe w).alloc _).alloc _;have bi:=c_ 0 aM;have bj:=c_ 1 aM;refine zcW func28 ntmps28 (h:=?_);gi_wp2;generalize World.alloc _ _=t at *;refine(zq.2 (aO.out t I)).mono ?_;rintro e w1 ⟨l,a,c,rv,cv,av,ay,rfl,b2,b4⟩;have x1:Ext t w1:=Xf b4;have al:=(zd.1 n6).1;gi_wp2;gi_loopw [] (fun wr=>∃(c':CT) (k':Cor) (ai:List ET) (ar aC:Value) (rows:List qO) (aN:List NT) (b:List Zy) (aL:List LT),b.length<=N/\Q rows k' b/\SrM wr t.heap.size l n given aims a c' ar aC k' ai rows aN b aL/\Ext t wr/\Hid (goS n aims given pivots N s p []=goS n aims given pivots (N-b.length) rows k' b)) (fun wr=>N-lenAt wr l 8)
 case atStart=>exact⟨c,p,av,rv,cv,s,ay,[],[],qo _,b1,b2,x1,rfl⟩
 case round=>
  obtain⟨c',k',ai,ar,aC,rows,aN,b,aL,_,hq,a8,hx,ax⟩:=hrel;have br:=a8.old;obtain⟨aA,aB,aI⟩:=a8.lgrw.shape;rw[zm,a8.llen]at aI;subst aI;have aP:Hid (wr.cell? (Xd l 8 O)=E (V aA b.length aB)):=c_ 8 a8.box;have a0:=zf (zoa hc aE a8 (fun an=>Q rows an b) (fun an aw=>k.out.fit aw) (fun an r k' h1 h2 h3=>k.out.exch h1 h2 h3) (fun an r h1 h2 h3=>k.out.none h1 h2 h3) hq (k.out.rowsn hq) (k.out.rowd hq) om (k.out.lines hq) (fun W hW=>aJ.below (I.trans (qk hx hW (fun h o=>om)))) pivots bd);cases hst:ZV aims rows pivots k' using SetR.cs with
  |no d r=>
   rw[hst]at a0;have y:Hid (goS n aims given pivots N s p []= .inr (.inl (d,r,b))):=by rw[Hid,ax.out,zod,hst];try rfl
   gi_wp2;refine(zq.2 a0.out).mono ?_;rintro e m ⟨rfl,a9⟩;have Z:Ext t (m.alloc (cl #[i_ 2,V_,gS ⟨#[]⟩,i_ (b.length:Int),gS ⟨(zab b (zcn d r)).toArray⟩] 35)):=(qk hx a9 (fun h o=>om)).alloc _;have C:=(Z.block _ al).trans n6;have q:=zC m (cl #[i_ 2,V_,gS ⟨#[]⟩,i_ (b.length:Int),gS ⟨(zab b (zcn d r)).toArray⟩] 35);have i0:=c_ 0 q;have i1:=c_ 1 q;have i2:=c_ 2 q;have i3:=c_ 3 q;have i4:=c_ 4 q;obtain⟨Y,F,⟨t0,t1,t2,t3,t4⟩,f0,f1,f2,f3,f4⟩:=jp C (i_ 2) (V_) (gS ⟨#[]⟩) (i_ (b.length:Int)) (gS ⟨(zab b (zcn d r)).toArray⟩);have f:=zf Y;have J:=zf (qk (I.trans Z) F (fun h o=>om));gi_wp2;have P:=c_ 0 f.out;have R:=c_ 1 f.out;have S:=c_ 2 f.out;have U:=c_ 3 f.out;have X:=c_ 4 f.out;exact zH (v:=ag #[i_ 2,V_,gS ⟨#[]⟩,i_ (b.length:Int),gS ⟨(zab b (zcn d r)).toArray⟩]) (by simp[results,results28,go_sem,P,R,S,U,X]) rfl ⟨by rw[y.out];rfl,J.out⟩
  |li=>
   rw[hst]at a0;have y:Hid (goS n aims given pivots N s p []= .inr (.inr b.length)):=by rw[Hid,ax.out,zod,hst];try rfl
   gi_wp2;refine(zq.2 a0.out).mono ?_;rintro e m ⟨rfl,a9⟩;have Z:Ext t (m.alloc (cl #[i_ 3,V_,gS ⟨#[]⟩,i_ (b.length:Int),gS ⟨#[]⟩] 35)):=(qk hx a9 (fun h o=>om)).alloc _;have C:=(Z.block _ al).trans n6;have q:=zC m (cl #[i_ 3,V_,gS ⟨#[]⟩,i_ (b.length:Int),gS ⟨#[]⟩] 35);have i0:=c_ 0 q;have i1:=c_ 1 q;have i2:=c_ 2 q;have i3:=c_ 3 q;have i4:=c_ 4 q;obtain⟨Y,F,⟨t0,t1,t2,t3,t4⟩,f0,f1,f2,f3,f4⟩:=jp C (i_ 3) (V_) (gS ⟨#[]⟩) (i_ (b.length:Int)) (gS ⟨#[]⟩);have f:=zf Y;have J:=zf (qk (I.trans Z) F (fun h o=>om));gi_wp2;have P:=c_ 0 f.out;have R:=c_ 1 f.out;have S:=c_ 2 f.out;have U:=c_ 3 f.out;have X:=c_ 4 f.out;exact zH (v:=ag #[i_ 3,V_,gS ⟨#[]⟩,i_ (b.length:Int),gS ⟨#[]⟩]) (by simp[results,results28,go_sem,P,R,S,U,X]) rfl ⟨by rw[y.out];rfl,J.out⟩
  |ok d=>
   rw[hst]at a0;have aG:=zhS _ _ _ hst;have au:Hid (goS n aims given pivots N s p []=match jF n aims d (given+b.length+1) (qU n aims d) Option.none with
    |Option.none=> .inl (d,b)
    |some r=>if N-b.length=0 then .inr (.inr b.length)else goS n aims given pivots (N-b.length-1) (jw d given rows ++ [(Zd n aims d r,given+b.length+1)]) d (b ++ [QX n aims d r])):=by rw[Hid,ax.out,zod,hst];try rfl
   gi_wp2;refine(zq.2 a0.out).mono ?_;rintro e m ⟨⟨rfl,z,c2,aD,b3⟩,a9⟩;have Z:Ext t m:=qk hx a9 (fun h o=>om);have z2:Ext m (m.alloc (cl #[i_ 0,V_,gS ⟨#[]⟩,i_ 0,gS ⟨#[]⟩] 35)):=(Xe m).alloc _;have ak:=b3.ext z2;have y2:=Z.trans z2;gi_wp2;generalize bq:m.heap.size=g8 at *;generalize World.alloc _ _=A2 at *;obtain⟨ca,cc,hcv⟩:∃ca cc,(V aA b.length aB)=V ca b.length cc:=⟨_,_,rfl⟩;rw[hcv]at ak;have b9:=k.out.cuts z aG;have aQ:=zf (zmR hc A2 l given b.length a ar ca cc c2 ak.box bb om aims d aD ak.cor (k.out.fit z) b9);have aU:=zf ak;refine(zq.2 aQ.out).mono ?_;rintro e A3 ⟨⟨⟨⟨fa,fl,fc⟩,⟨tb,ta,tl,tc⟩,nn⟩,⟨⟨va,vl,vc⟩,⟨qa,ql,qc⟩⟩,⟨⟨a2,a4,a3⟩,⟨aa,ad,ab⟩,⟨ae,ah,af⟩,⟨a5,a7,a6⟩⟩⟩,rfl,b7,aF⟩;simp only[JG.val,JG.cells,NT.fv,WT.sv,LT.ov,LT.pv,sl3];obtain⟨u,z4⟩:=new1 A3 (cl #[V fa fl fc,G tb,V ta tl tc,i_ nn,V va vl vc,V qa ql qc,V a2 a4 a3,V aa ad ab,V ae ah af,V a5 a7 a6] 116);have L:=aU.out.ext ((Xf aF).trans z4);have y4:=(y2.trans (Xf aF)).trans z4;have b8:∀r,jF n aims d (given+b.length+1) (qU n aims d) O=E r->∃ai,zcH (A3.alloc (cl #[V fa fl fc,G tb,V ta tl tc,i_ nn,V va vl vc,V qa ql qc,V a2 a4 a3,V aa ad ab,V ae ah af,V a5 a7 a6] 116)) aims ⟨⟨(fa,fl,fc),⟨tb,ta,tl,tc⟩,nn⟩,⟨(va,vl,vc),(qa,ql,qc)⟩,⟨(a2,a4,a3),(aa,ad,ab),(ae,ah,af),(a5,a7,a6)⟩⟩ (Zd n aims d r,given+b.length+1) (QX n aims d r) (Z1 n aims d (given+b.length+1) r) ai:=fun r hr=>(b7 r hr).imp fun _ aw=>aw.ext z4
   have bp:=y4.size;cases hdp:jF n aims d (given+b.length+1) (qU n aims d) O with
   |none=>
    have y:Hid (goS n aims given pivots N s p []= .inl (d,b)):=by rw[Hid,au.out,hdp]
    have aR:=zf (zhO hc aE L (k.out.fit z) om (k.out.lines z) (k.out.great z) (aJ.below (I.trans y4)));simp only[zeQ];gi_wp2;refine(zq.2 aR.out).mono ?_;rintro e A6 ⟨⟨g1,g2,g3⟩,rfl,aK,a1⟩;have y6:Ext t A6:=y4.trans (Xf a1);have C:=(y6.block _ al).trans n6;simp only[sl3]at aK⊢;obtain⟨vs,hvs⟩:∃vs,zT (T.dotZ aims (ptS d))=vs:=⟨_,rfl⟩;have aX:=zf hvs;rw[hvs];obtain⟨Y,F,⟨t0,t1,t2,t3,t4⟩,f0,f1,f2,f3,f4⟩:=jp C (i_ 1) (V g1 g2 g3) (gS vs) (i_ (b.length:Int)) (gS ⟨(zab b (endG aims d)).toArray⟩);have f:=zf Y;have J:=zf (qk (I.trans y6) F (fun h o=>om));have aV:=zf ((aK.low (zF hB (I.trans y4).size)).wr F (fun h o=>by rw[o];exact fun ht=>absurd (ht.one ⟨_,_,C⟩) dc));gi_wp2;have P:=c_ 0 f.out;have R:=c_ 1 f.out;have S:=c_ 2 f.out;have U:=c_ 3 f.out;have X:=c_ 4 f.out;exact zH (v:=ag #[i_ 1,V g1 g2 g3,gS vs,i_ (b.length:Int),gS ⟨(zab b (endG aims d)).toArray⟩]) (by simp[results,results28,go_sem,P,R,S,U,X]) rfl ⟨by rw[y.out];exact⟨(g1,g2,g3),by rw[aX.out];rfl,aV.out⟩,J.out⟩
   |some r=>
    obtain⟨_,aH⟩:=b8 r hdp;have bh:=zf aH;by_cases bo:N<=b.length
    ·have y:Hid (goS n aims given pivots N s p []= .inr (.inr b.length)):=by
      rw[Hid,au.out,hdp];exact zQ om
     have aS:=zf (zfZ L);have c8:(A3.alloc (cl #[V fa fl fc,G tb,V ta tl tc,i_ nn,V va vl vc,V qa ql qc,V a2 a4 a3,V aa ad ab,V ae ah af,V a5 a7 a6] 116)).cell? (Xd l 8 O)=E (V ca b.length cc):=c_ 8 L.box;have b6:min (cuts:Int) 20000<=(b.length:Int):=by have:=HN.out;omega
     simp only[zba];gi_wp2;refine(zq.2 aS.out).mono ?_;rintro e A6 ⟨rfl,a1⟩;have y6:Ext t A6:=y4.trans (Xf a1);have C:=(y6.block _ al).trans n6;obtain⟨Y,F,⟨t0,t1,t2,t3,t4⟩,f0,f1,f2,f3,f4⟩:=jp C (i_ 3) (V_) (gS ⟨#[]⟩) (i_ (b.length:Int)) (gS ⟨#[]⟩);have f:=zf Y;have J:=zf (qk (I.trans y6) F (fun h o=>om));gi_wp2;have P:=c_ 0 f.out;have R:=c_ 1 f.out;have S:=c_ 2 f.out;have U:=c_ 3 f.out;have X:=c_ 4 f.out;exact zH (v:=ag #[i_ 3,V_,gS ⟨#[]⟩,i_ (b.length:Int),gS ⟨#[]⟩]) (by simp[results,results28,go_sem,P,R,S,U,X]) rfl ⟨by rw[y.out];rfl,J.out⟩
    ·have bs:b.length<N:=om;have be:=k.out.next z aG hdp om;have y:Hid (goS n aims given pivots N s p []=goS n aims given pivots (N-(b ++ [QX n aims d r]).length) (jw d given rows ++ [(Zd n aims d r,given+b.length+1)]) d (b ++ [QX n aims d r])):=by
      rw[Hid,au.out,hdp];have e9:N-b.length-1=N-(b ++ [QX n aims d r]).length:=so;show(if N-b.length=0 then(.inr (.inr b.length):SOut)else goS n aims given pivots (N-b.length-1) (jw d given rows ++ [(Zd n aims d r,given+b.length+1)]) d (b ++ [QX n aims d r]))=_
      rw[zO om,e9]
     have c8:(A3.alloc (cl #[V fa fl fc,G tb,V ta tl tc,i_ nn,V va vl vc,V qa ql qc,V a2 a4 a3,V aa ad ab,V ae ah af,V a5 a7 a6] 116)).cell? (Xd l 8 O)=E (V ca b.length cc):=c_ 8 L.box;have b6:(b.length:Int)<min (cuts:Int) 20000:=by have:=HN.out;omega
     have az:=zf (zlj L (k.out.rowsn z) (by have h8:=(k.out.fit z).elen;have h9:=(k.out.fit z).n4;omega) om y4.size _ _ _ _ _ aH);have hU:∀h,h=l\/ar.ownBlock=E h\/(V ca b.length cc).ownBlock=E h->t.heap.size<=h:=fun h o=>by
      rcases o with e|e|e
      ·omega
      ·exact(L.rgrw.type h e).2
      ·exact(L.lgrw.type h e).2
     have i0:=c_ 0 u;have i1:=c_ 1 u;have i2:=c_ 2 u;have i3:=c_ 3 u;have i4:=c_ 4 u;have i5:=c_ 5 u;have i6:=c_ 6 u;have i7:=c_ 7 u;have i8:=c_ 8 u;have i9:=c_ 9 u;simp only[JG.val,JG.cells,NT.fv,WT.sv,LT.ov,LT.pv,sl3]at az;have aW:=zf hU;have bc:=zmh (w:=wr) (g:=l) (j:=8) aP.out;simp only[zba];gi_wp2;refine(zq.2 az.out).mono ?_;rintro e A6 ⟨⟨_,rfl⟩,⟨bg,aY,aj,-⟩,bf⟩;have y6:Ext t A6:=qk y4 bf aW.out;have aZ:lenAt A6 l 8=(b ++ [QX n aims d r]).length:=by
      obtain⟨_,_,ba⟩:=aj.lgrw.shape;have a1:=aj.box;rw[ba,zm,aj.llen]at a1;exact zmh (c_ 8 a1)
     have aT:=zf aj;gi_wp2;go_roundw
     case rel=>exact⟨c2,d,aD,bg,aY,_,_,_,_,so,be,aT.out,y6,y.out⟩
     case measure=>
      rw[aZ,bc];simp;omega
theorem LdC.ext{p:qF}{cs:List zac}{rs:List RwV}{f:Nat}{c d:A_}{cap k e:Nat}{W b:H}(h:LdC p cs rs f j c d cap k e W)(a:Ext W b):LdC p cs rs f j c d cap k e b:=⟨a.cell h.c0,a.cell h.c1,h.pm.ext a⟩
def bgX (fa:A_)(fl fc n k:Nat)(v:Value):W_:=#[V fa fl fc,i_ (n:Nat),i_ (k:Int),v,V_,V_,V_,V_,V_]
section

variable {α:Type} {te:TypeId} {sz:Nat} {tb:TypeId} {bx bx':Value->W_} {cells:α->List Value} {w1 A:World} {b0 g gm i:Nat} {v x:Value} {us:List α} {M:Nat->Prop}
theorem GrJ.put (h:GrJ te sz tb bx cells w1 b0 g gm v us M A)(k:(bx v).setIfInBounds i x=bx' v):GrJ te sz tb bx' cells w1 b0 g gm v us M (A.setCell (Xd g i O) x)/\Wr (fun b=>b=g) A (A.setCell (Xd g i O) x):=by
 obtain⟨a,f,d,e,j⟩:=h;have c:Wr (fun b=>b=g) A (A.setCell (Xd g i O) x):=zv (U:=fun b=>b=g) rfl _;exact⟨⟨a.trans (c.mono fun b a=> .inl a),by rw[Xl f,k],d.same c.size (fun b a=>c.block b (d.type b a).1.lt (e b a).1),e,j⟩,c⟩
theorem GrJ.priv (h:GrJ te sz tb bx cells w1 b0 g gm v us M A){B:H}(a:Wr (zaa w1.heap.size A) A B)(d:te≠3/\te≠4)(c:tb≠3/\tb≠4):GrJ te sz tb bx cells w1 b0 g gm v us M B:=by
 obtain⟨e,b,f,j,k⟩:=h;exact⟨e.after a (fun e e=> .inr e.1),a.some b (fun e=>e.type c.1 c.2 ⟨_,_,b⟩),f.priv a d.1 d.2,j,k⟩
end
def BgI (w1:H)(b0 gs:Nat)(fa:A_)(fl fc n:Nat)(rows:R_)(k:Nat)(M:Nat->Prop)(A:H):Prop:=
 ∃(rv:Value) (rts:List NT),GrJ 106 4 123 (bgX fa fl fc n k) NT.cells w1 b0 gs gs rv rts M A/\rts.length=k/\∀(i:Nat) (t:NT) (r:L_×Int),rts[i]? =E t->rows[i]? =E r->zaP A t (r,i+1)
theorem zhT {fa:A_}{fl fc n k:Nat}{v:Value}(b:ZM v):∀x∈(bgX fa fl fc n k v).toList,ZM x:=by
 intro x a;simp[bgX]at a;rcases a with rfl|rfl|rfl|rfl|rfl
 all_goals first|exact b|(intro m e;cases e)
theorem zsf {w0 c:H}{a d:Nat}{o:Obj}(e:c.heap[a]? =E (cl #[pn O] 97))(h:c.heap[d]? =E o)(y:Ext w0 c)(hg:w0.heap.size<=a)(j:a≠d):
 (c.setCell (Xd a 0 O) (p_ d 0)).heap[a]? =E (cl #[p_ d 0] 97)/\(c.setCell (Xd a 0 O) (p_ d 0)).heap[d]? =E o/\Ext w0 (c.setCell (Xd a 0 O) (p_ d 0))/\Wr (fun b=>b=a) c (c.setCell (Xd a 0 O) (p_ d 0))/\(¬qQ c a 64/\qK c a)/\c.cell? (Xd a 0 O)=E (pn O)/\c.frozen? (Xd a 0 O)=false:=by
 have f:Wr (fun b=>b=a) c (c.setCell (Xd a 0 O) (p_ d 0)):=zv (U:=fun k=>k=a) rfl _;exact⟨Xl e,f.some h (fun a=>j a.symm),qk y f (fun b a=>by rw[a];exact hg),f,⟨fun a=>absurd (a.one ⟨_,_,e⟩) dc,zE e n1⟩,c_ 0 e,Xh e⟩
theorem ZS.from {w:H}{t:TypeId}{g cap size lo m:Nat}{a:List (List Value)}(h:ZS w t (V (E (Xd g 0 O)) m cap) size a)(hm:a.length=m)(b:lo<=m):ZS w t (V (E ⟨g,lo*size,O⟩) (m-lo) (cap-lo)) size (a.drop lo):=by
 rcases h with h|⟨_,off,_,a,_,b,c⟩
 ·cases h.1
 ·simp only[qp,qN,Jg]at a;obtain⟨⟨rfl,rfl,-⟩,_,rfl⟩:=a;refine .inr ⟨g,lo*size,cap-lo,by rw[Za,hm],by rw[Za];omega,b,fun i cs a j u b=>?_⟩;rw[Jo]at a;have:=c (lo+i) cs a j u b;rw[qt,Zg]at this;exact this
theorem zkT {p:qF}{i:Nat}{r:qO}(h:(jf p)[i]? =E r):(T.rowsS p)[i]? =E r.1/\r.2=i+1:=by
 unfold jf at h;rw[zR,List.getElem?_zipIdx]at h;cases hy:(T.rowsS p)[i]? with
 |none=>rw[hy]at h;simp at h
 |some y=>
  rw[hy]at h;simp at h;rw[<-h];exact⟨rfl,rfl⟩
theorem zhU (p:qF):(jf p).length=(T.rowsS p).length:=by unfold jf;simp
theorem zmi (z:Int)(h1:-1000<=z)(h2:z<=1000):IntKind.i64.wrap z=z:=by
 unfold IntKind.wrap;simp only[IntKind.bits,IntKind.signed,zaT];split
 ·rename_i h
  have:=jU h;omega
 ·rename_i h
  have a:¬(z%2^64>=2^(64-1)):=fun e=>h (zbA e)
  omega
theorem zit {L:Nat}{p:qF}(a:zbU L p)(b:2+p.n<=L):(T.rowsS p).length<=20:=by
 obtain⟨_,_⟩:=a.n om;rw[zf0,ziV];have b:=a.l;have b:∀l:List (L_×U_×Int),(l.flatMap T.condRows).length<=2*l.length:=by
  intro l;induction l with
  |nil=>simp
  |cons a l c=>
   rw[Qo,zM,qi];have:(T.condRows a).length<=2:=by
    unfold T.condRows;rw[zM];split<;>split<;>simp
   omega
 have:=b p.rows;omega
theorem zpK {L D K:Nat}(hc:jN D K)(p:qF)(cs:List zac)(rs:List RwV)(bc gR:Nat)(z B:A_)(cap I:Nat)(w:H)(hp:zbU L p)(s:2+p.n<=L)(b5:p.mx.length=p.n)(bL:Zu D p.mx)(cc:2*p.n<=(T.rowsS p).length)(c4:∀r∈jf p,r.1.1.length=p.n/\Jm D r.1)(bV:zb9 p.mx ((jf p).drop ((T.rowsS p).length-2*p.n))=ze7 p)(bR:(jx p.mx ((jf p).drop ((T.rowsS p).length-2*p.n))).length=p.n)(h:PM p cs rs bc gR z B w):
 C_ 45 #[ag #[V z p.n cap,V B p.rows.length I]] w fun e w'=>∃d a c rv cv aB N,e=Xa (p_ d 0)/\SrM w' w.heap.size d p.n (T.rowsS p).length p.mx a c rv cv (ze7 p) aB (jf p) N [] []/\b_ w w':=by
 obtain⟨_,bZ⟩:=hp.n om;have aS:=zf s;clear s;have bj:Hid (∀W,Ext w W->C_ 90 #[ag #[V z p.n cap,V B p.rows.length I]] W fun e w'=>∃b,e=Xa (.func (.func 151) #[] #[p_ b 0])/\LdC p cs rs bc gR z B cap I b w'/\b_ W w'):=fun W F=>by
  refine(zrU z p.n cap B p.rows.length I W).mono ?_;rintro e w' ⟨rfl,rfl⟩;have hn:=zC W (cl #[V z p.n cap,V B p.rows.length I] 73);exact⟨_,rfl,⟨c_ 0 hn,c_ 1 hn,h.ext (F.alloc _)⟩,(qf _ _).alloc (zh _) _⟩
 have bu:Hid (∀W b,LdC p cs rs bc gR z B cap I b W->C_ 89 #[.func (.func 151) #[] #[p_ b 0]] W fun e w'=>∃aW:S_,e=Xa (ag #[sl3 aW])/\Zo w' (sl3 aW) p.mx/\b_ W w'):=fun W b hl=>zmO W _ _ p.mx (aimsSeq hl om b5) om
 have bB:Hid (∀W,C_ 91 #[ag #[V z p.n cap,V B p.rows.length I]] W fun e w'=>e=Xa (i_ (p.n:Nat))/\b_ W w'):=fun W=>by
  refine(zmc z B p.n cap p.rows.length I W om).mono ?_;rintro e w' ⟨rfl,rfl⟩;exact⟨rfl,(qf _ _).alloc (zh _) _⟩
 obtain⟨aM,x0⟩:=new1 w (cl #[V z p.n cap,V B p.rows.length I] 73);have bw:=zf h;clear h;refine Q0 func45 ntmps45 (h:=?_);gi_wp2;generalize World.alloc _ _=w0 at *;have a0:Hid (∀W,Ext w0 W->W.cell? (y_ w 0)=E (V z p.n cap)/\W.cell? (y_ w 1)=E (V B p.rows.length I)):=fun W F=>
  have bg:=(F.block _ (zd.1 aM).1).trans aM;⟨c_ 0 bg,c_ 1 bg⟩
 refine zfe (S:=fun W=>W.cell? (y_ w 0)=E (V z p.n cap)/\W.cell? (y_ w 1)=E (V B p.rows.length I))
  (fun a' P=>∃(g3 d:Nat) (fa:A_) (q o:Nat) (v6:Value),P.heap[g3]? =E (cl #[p_ d 0] 97)/\P.heap[d]? =E (cl #[V fa q o,i_ (p.n:Nat),i_ 0,V_,V_,V_,V_,V_,V_] 123)/\Zo P (V fa q o) p.mx/\Ext w0 P/\w0.heap.size<=g3/\w0.heap.size<=d/\g3≠d/\
   a'={ tmps:=#[ag #[V z p.n cap,V B p.rows.length I],p_ w.heap.size 0,pn O,p_ g3 0,undef,ag #[V z p.n cap,V B p.rows.length I],v6,ag #[V fa q o],ag #[V z p.n cap,V B p.rows.length I],i_ (p.n:Nat),ag #[V fa q o,i_ (p.n:Nat),i_ 0,V_,V_,V_,V_,V_,V_],p_ d 0,undef,undef,undef,undef,undef,undef,undef,undef,undef,undef,undef,undef,undef,undef,undef,undef,undef,undef,undef,undef,undef,undef,undef,undef,undef,undef,undef,undef,undef,undef,undef,undef,undef,undef,undef,undef,undef,undef,undef,undef,undef,undef,undef,undef,undef,undef,undef,undef,undef,undef],defers:= [] }) hm (a0.out w0.drew (Xe w0).drew) (fun C=>?_) ?_
 ·have y:=(Xe w0).drew;refine tkl [0,3] ?_;iterate 2 all_goals try
   first
    |(have _l:=s;refine rd1 1 fun K f=>?_)
    |refine rd2 1 7 (h:=fun K f=>?_) (h1:=fun K f=>?_)
   all_goals
    go_simp;first
     |go_at_call 90
     |(
      refine f.out _ _ (a0.out _ (y.alloc (cl #[pn O] 97))) (h:=fun C=>?_);clear f K;obtain⟨s,a6⟩:=zcb y (cl #[pn O] 97);have y:=y.alloc (cl #[pn O] 97))
  all_goals
   refine(bj.out _ (x0.trans y)).mono ?_;rintro e B1 ⟨_,rfl,aw,aZ⟩;have y:=y.trans (Xf aZ);try have s:=J8 s aZ
   go_wp2_with fail
   refine f.out _ _ (a0.out _ y) (h:=fun C=>?_);clear f K
  iterate 2 all_goals try
   first
    |(have _l:=s;refine rd1 2 fun K f=>?_)
    |refine rd2 2 7 (h:=fun K f=>?_) (h1:=fun K f=>?_)
   all_goals
    go_simp;first
     |go_at_call 89
     |(
      refine f.out _ _ (a0.out _ (y.alloc (cl #[pn O] 97))) (h:=fun C=>?_);clear f K;obtain⟨s,a6⟩:=zcb y (cl #[pn O] 97);have aw:=aw.ext ((Xe _).alloc (cl #[pn O] 97));have y:=y.alloc (cl #[pn O] 97))
  all_goals
   refine(bu.out _ _ aw).mono ?_;rintro e B2 ⟨⟨fa,q,o⟩,rfl,Y,a1⟩;have y:=y.trans (Xf a1);try have s:=J8 s a1
   simp only[sl3]at Y⊢;go_wp2_with fail
   refine f.out _ _ (a0.out _ y) (h:=fun C=>?_);clear f K aw
  iterate 2 all_goals try
   first
    |(have _l:=s;refine rd1 4 fun K f=>?_)
    |refine rd2 4 7 (h:=fun K f=>?_) (h1:=fun K f=>?_)
   all_goals
    go_simp;first
     |go_at_call 91
     |(
      refine f.out _ _ (a0.out _ (y.alloc (cl #[pn O] 97))) (h:=fun C=>?_);clear f K;obtain⟨s,a6⟩:=zcb y (cl #[pn O] 97);have Y:=Y.ext ((Xe _).alloc (cl #[pn O] 97));have y:=y.alloc (cl #[pn O] 97))
  all_goals
   refine(bB.out _).mono ?_;rintro e B3 ⟨rfl,aE⟩;have y:=y.trans (Xf aE);try have s:=J8 s aE
   have Y:=Y.ext (Xf aE);go_wp2_with fail
   refine f.out _ _ (a0.out _ y) (h:=fun C=>?_);clear f K;refine tkv 5 ?_
  iterate 2 all_goals try first
   |(have _l:=s;have _r:=hR)
   |(
    (
     first
     |(have _l:=s;refine rd1 6 fun K f=>?_)
     |(have _r:=hR;refine rd1 7 fun K f=>?_)
     |refine rd2 6 7 (h:=fun K f=>?_) (h1:=fun K f=>?_))
    all_goals
     go_simp;first
      |(
       refine f.out _ _ (a0.out _ (y.alloc (cl #[pn O] 97))) (h:=fun C=>?_);clear f K;obtain⟨s,a6⟩:=zcb y (cl #[pn O] 97);try(have hq:=zdC hR (cl #[pn O] 97);obtain⟨hR,a7⟩:=hq)
       have Y:=Y.ext ((Xe _).alloc (cl #[pn O] 97));have y:=y.alloc (cl #[pn O] 97))
      |(
       refine f.out _ _ (a0.out _ (y.alloc (cl #[V fa q o,i_ (p.n:Nat),i_ 0,V_,V_,V_,V_,V_,V_] 123))) (h:=fun C=>?_);clear f K;obtain⟨hR,aG⟩:=zcb y (cl #[V fa q o,i_ (p.n:Nat),i_ 0,V_,V_,V_,V_,V_,V_] 123);try(have hq:=zdC s (cl #[V fa q o,i_ (p.n:Nat),i_ 0,V_,V_,V_,V_,V_,V_] 123);obtain⟨s,a7⟩:=hq)
       have Y:=Y.ext ((Xe _).alloc (cl #[V fa q o,i_ (p.n:Nat),i_ 0,V_,V_,V_,V_,V_,V_] 123));have y:=y.alloc (cl #[V fa q o,i_ (p.n:Nat),i_ 0,V_,V_,V_,V_,V_,V_] 123)))
  all_goals
   obtain⟨P,hV⟩:=zl8 y;try simp only[zL,zay]at a6
   try simp only[zL,zay]at aG
   try simp only[zL,zay]at a7
   try simp only[zL,zay]at s
   try simp only[zL,zay]at hR
   simp only[hV]at s hR y Y C⊢;clear hV;obtain⟨bI,bJ,y1,ah,bO,_,_⟩:=zsf s hR y a6 (by first|exact a7|exact a7.symm);refine rd1 8 fun K f=>?_;go_simp;refine f.out _ _ (a0.out _ y1) (h:=fun C=>?_);clear f K;exact zV kr ⟨rfl,(by first|rfl|trivial),_,_,fa,q,o,_,bI,bJ,Y.wr ah (fun b l=>by rw[l];exact bO),y1,a6,aG,(by first|exact a7|exact a7.symm),rfl⟩ _
 ·rintro a' P ⟨g3,d,fa,q,o,v6,h3,hS,Y,y,a6,aG,a7,rfl⟩;have cg:=(zd.1 aM).1;have xV:=x0.trans y;have bG:=(zd.1 h3).1;have bK:=(zd.1 hS).1;obtain⟨c0,c1⟩:=a0.out P y;have bD:=zf Y;obtain⟨i0,b3,c7,ba,c8⟩:=Zn ziR;have cd:=zit hp aS.out;clear Y;gi_wp2;refine(zq.2 (zr8 z B p.n cap p.rows.length I P)).mono ?_;rintro e w1 ⟨rfl,ah⟩;have x1:Ext P w1:=by rw[ah];exact(Xe P).alloc _
  have nP:w1.heap[P.heap.size]? =E (cl #[V z p.n cap,V B p.rows.length I] 73):=by rw[ah];exact zC P _
  have m3:=(x1.block _ bG).trans h3;have mS:=(x1.block _ bK).trans hS;have ch:=(zd.1 nP).1;clear ah c0 c1 h3 hS;gi_wp2;refine ze6 (zrq p cs rs bc gR z B cap I P.heap.size hp aS.out) rfl (qW func152 kr rfl) (fun k v W=>by rintro⟨r,rfl,_⟩;rfl)
   (BgI w1 w.heap.size d fa q o p.n (T.rowsS p)) (fun _ _ _=>False) (fun b=>b=d) ?hI ?hIx ?hI2 ?hIx2 ?hC ?h0 ?round ?done ?stop
  case hI=>
   rintro k M A bi ⟨rv,N,g1,g2,ar⟩ hk;exact⟨rv,N,g1.keep hk,g2,fun i Q r m X=>(ar i Q r m X).keep hk⟩
  case hIx=>exact fun _ _ _ _ h _=>h
  case hI2=>
   rintro k M A bi ⟨rv,N,g1,g2,ar⟩ hw;exact⟨rv,N,g1.priv hw dc dc,g2,fun i Q r m X=>(ar i Q r m X).wr hw (fun b l=>l.num)⟩
  case hIx2=>exact fun _ _ _ _ h _=>h
  case hC=>
   rintro k M A ⟨rv,N,g1,g2,ar⟩;have ai:=qk (xV.trans x1) g1.1 (fun b l=>by rcases l with e|e<;>omega);have nA:=g1.1.some nP (fun e=>by rcases e with e|e<;>omega);refine⟨⟨c_ 0 nA,c_ 1 nA,bw.out.ext ai⟩,fun x F=>⟨g1.lt x F,?_⟩⟩;obtain⟨f1,f2⟩:=g1.far (zhT (zb0 g1.2.2.1)) x F;exact zcN.of (fun m=>by
    rcases f2 with f2|f2
    ·exact absurd (m.one f2) dc
    ·exact absurd (m.one f2) dc) f1
  case h0=>exact⟨V_,[],GrJ.start mS,rfl,fun i Q r m=>by simp at m⟩
  case round=>
   rintro l2 k v M A cf ⟨⟨⟨ra,rl,rc⟩,⟨rb,sa,sl,sc⟩⟩,rfl,_,bb,b7⟩ ⟨rv,N,t,a2,ab⟩;have ai:=qk (xV.trans x1) t.1 (fun b l=>by rcases l with e|e<;>omega);have ce:k<20:=om;obtain⟨a4,u,af⟩:=t.2.2.1.shape;rw[zm,a2]at af;subst af;have a8:=zf t;have aA:=zf ab;have aT:=zf b7;have bF:=zf bb;have a5:=zf a2;have c6:=t.1.size;have aH:=(zd.1 t.2.1).1;simp only[RW.val,RW.fv,WT.sv];clear ab b7 bb;unfold Zz;gi_wp2;refine⟨Xg ((Xe A).alloc _),fun A2 aI=>?_⟩;have aN:=(zn.alloc w1.heap.size A (cl #[V ra rl rc,G rb,V sa sl sc] 104)).trans aI;have e0:=aI.block _ _ (zC A (cl #[V ra rl rc,G rb,V sa sl sc] 104)) (.inr rfl);have c5:=aI.size;simp only[zL]at c5;have au:=a8.out.keep aN;have ax:∀b,(V a4 k u).ownBlock=E b->b<A.heap.size/\b≠d/\(b=d\/w1.heap.size<=b):=fun b l=>⟨(a8.out.2.2.1.type b l).1.lt,a8.out.2.2.2.1 b l⟩
   have aJ:=au.1.some m3 (fun e=>by rcases e with e|e<;>omega);obtain⟨aX,b9⟩:=GrJ.put (i:=2) (x:=i_ ((k:Int)+1)) (bx':=bgX fa q o p.n (k+1)) au (by simp[bgX]);have a1:=au.2.1;simp only[bgX]at a1;have p2:=c_ 2 a1;have f2:=Xh (j:=2) a1;have p3:=c_ 0 aJ;have ak:=zf aJ;have bp:=zf e0;have ad:=zf aX;have ae:=zf b9;clear t au aX b9 aJ e0 a1;refine ZW ?_;refine zcP (fun K2 aY=>?_);have br:=zf aY;clear aY;refine Qt (by rfl) (fun⟨a,w,h⟩=>h) ?_;go_wp2_with fail
   refine br.out _ _ ?_;clear p2 p3 f2;generalize World.setCell _ _ _=Z at *;have ci:=ae.out.size;have j3:=ae.out.some ak.out (fun e=>om);have jE:=ae.out.some bp.out (fun e=>om);have jS:=ad.out.2.1;simp only[bgX]at jS;have aj:Hid (∀W,Wr (fun b=>(V a4 k u).ownBlock=E b) Z W->W.cell? (Xd g3 0 O)=E (p_ d 0)/\W.cell? (Xd d 3 O)=E (V a4 k u)/\W.cell? (Xd d 2 O)=E (i_ (((k+1:Nat)):Int))/\W.cell? (y_ A 0)=E (V ra rl rc)/\W.cell? (y_ A 1)=E (G rb)/\W.cell? (y_ A 2)=E (V sa sl sc)):=fun W hW=>by
    have q3:=hW.some j3 (fun e=>by have:=ax _ e;omega);have qS:=hW.some jS (fun e=>(ax _ e).2.1 rfl);have qE:=hW.some jE (fun e=>by have:=ax _ e;omega);exact⟨c_ 0 q3,c_ 3 qS,c_ 2 qS,c_ 0 qE,c_ 1 qE,c_ 2 qE⟩
   have bq:Hid (∀W,Wr (fun b=>(V a4 k u).ownBlock=E b) Z W->W.frozen? (Xd d 3 O)=false):=fun W hW=>Xh (hW.some jS (fun e=>(ax _ e).2.1 rfl))
   have bs:=zf (fun(A4 A8:H) (g8 aq:Nat) hx4 own grow an dig=>ad.out.more (A2:=Z) (A4:=A4) (A5:=A8) (g5:=g8) (cap5:=aq) (j:=3) (u:=(⟨(ra,rl,rc),⟨rb,sa,sl,sc⟩,((k+1:Nat):Int)⟩:NT)) (zn.refl _ _) hx4 om own rfl grow an dig rfl);have x7:Ext Z (Z.drew.alloc (cl #[V ra rl rc,G rb,V sa sl sc,i_ ((k+1:Nat):Int)] 106)):=(Xe Z).drew.alloc _;have b6:=(ad.out.2.2.1.ext x7).own;rw[zm,a5.out]at b6;have bQ:=(ad.out.2.2.1.ext x7).dig;clear jS jE j3;refine zdM 15 (S:=fun W=>W.cell? (Xd g3 0 O)=E (p_ d 0)/\W.cell? (Xd d 3 O)=E (V a4 k u)/\W.cell? (Xd d 2 O)=E (i_ (((k+1:Nat)):Int))/\W.cell? (y_ A 0)=E (V ra rl rc)/\W.cell? (y_ A 1)=E (G rb)/\W.cell? (y_ A 2)=E (V sa sl sc)) hm (by rfl) (fun⟨a,w,h⟩=>h) (aj.out Z (Xj _ _)) (h:=fun C=>?_);refine tkl [0,1,2,3,4,5,6,7,8,9,10] ?_;refine rd1 11 fun K f=>?_;go_simp;refine f.out _ _ (aj.out _ (Xg x7)) (h:=fun C=>?_);clear f K;refine rd1 12 fun K f=>?_;refine QM _ rfl (.tmp 26) (.tmp 33) 120 rfl w.heap.size 106 i0 (ag #[V_,G false,V_,i_ 0]) 4 64 underlying120 b3 c7 ba c8 rfl dc (V a4 k u) k (N.map NT.cells).flatten rfl b6 (y_ Z 0) 1 1 [V ra rl rc,G rb,V sa sl sc,i_ ((k+1:Nat):Int)] rfl rfl (rec_new Z.drew [V ra rl rc,G rb,V sa sl sc,i_ ((k+1:Nat):Int)] 106) (by intro bh hu;simp only[zI,zY,Zp]at hu;rcases hu with rfl|rfl|rfl|rfl<;>rfl) om mo om (by have:=ai.size;simp;omega) (Z.heap.size+1) sp (by intro bh hu;simp[Value.cells]at hu;rcases hu with rfl|rfl|rfl|rfl<;>(intro n e;cases e)) (by intro bh hu;simp only[zI,zY,Zp]at hu;rcases hu with rfl|rfl|rfl|rfl<;>(intro n e;cases e)) bQ ?_;intro g8 aq A8 be aC an c9 aV;have x8:=(Xg x7).trans (Qh aC (fun g hg=>hg));have bf:A8.ownsRow w.heap.size 106 4 (V (E (Xd g8 0 O)) (N.length+1) aq) (N.length+1) ((N.map NT.cells).flatten++NT.cells ⟨(ra,rl,rc),⟨rb,sa,sl,sc⟩,((k+1:Nat):Int)⟩):=by rw[a5.out];exact be
   have HF:=zf (bs.out _ A8 g8 aq (Xg x7) bf aC (an.imp id (fun e=>so)) aV);rw[a5.out]at HF;have s8:=(aj.out _ x8).2.1;clear be bf aC an c9 aV;refine f.out _ _ (aj.out _ x8) (h:=fun C=>?_);clear f K;refine tkl [13,14] ?_;have f8:=bq.out _ x8;refine zV kr (zdB (h:=?_)) _;go_simp;obtain⟨bd,M',m2,ca⟩:=HF.out;have bT:∀b,b=d->¬qQ A2 b 64/\qK A2 b:=fun b l=>by
    obtain⟨q1,J⟩:=(a8.out.keep aN).far (zhT (by intro aL e;cases e)) b ((a8.out.2.2.2.2 b).2 (.inl l));exact⟨fun m=>by
     rcases J with J|J
     ·exact absurd (m.one J) dc
     ·exact absurd (m.one J) dc,q1⟩
   have bU:∀b,M b->¬qQ (Z.drew.alloc (cl #[V ra rl rc,G rb,V sa sl sc,i_ ((k+1:Nat):Int)] 106)) b 64/\qK (Z.drew.alloc (cl #[V ra rl rc,G rb,V sa sl sc,i_ ((k+1:Nat):Int)] 106)) b:=fun b l=>by
    obtain⟨q1,J⟩:=(ad.out.keep (zn.of_below x7)).far (zhT (by intro aL e;cases e)) b l;exact⟨fun m=>by
     rcases J with J|J
     ·exact absurd (m.one J) dc
     ·exact absurd (m.one J) dc,q1⟩
   have b8:∀(Q:NT) (r:qO),zaP A Q r->zaP _ Q r:=fun Q r h=>((((h.keep aN).wr ae.out bT).ext x7).wr bd bU)
   refine⟨(((ae.out.mono fun b l=>(a8.out.2.2.2.2 b).2 (.inl l)).trans (Xg x7)).trans bd),M',⟨_,_,m2,by simp[a5.out],fun i Q r m X=>?_⟩,fun x F=>(ca x F).imp id (fun e=>om)⟩;by_cases hi:i<k
   ·rw[zS (by rw[a5.out];exact hi)]at m;exact b8 Q _ (aA.out i Q r m X)
   ·have bX:=(zo.1 m).1;rw[zM,ZH,a5.out]at bX;have bW:i=k:=om;subst bW;rw[zG (by rw[a5.out];omega),a5.out,Qn]at m;simp only[zcR,qN]at m;subst m;rw[bF.out]at X;cases X;exact b8 _ _ ⟨aT.out.1,aT.out.2,rfl⟩
  case done=>
   rintro D' M A hD-⟨rv,N,t,a2,ab⟩ hd;subst hD;have ai:=qk (xV.trans x1) t.1 (fun b l=>by rcases l with e|e<;>omega);have cn:Ext P A\/True:= .inr trivial;obtain⟨a4,u,af⟩:=t.2.2.1.shape;rw[zm,a2]at af;subst af;obtain⟨g,rfl,hcap⟩:∃g,a4=E (Xd g 0 O)/\(T.rowsS p).length<=u:=by
    obtain⟨_,h1|⟨g,_,_,hv,_,_,bY,_⟩⟩:=t.2.2.1.own
    ·have:=h1.1;simp only[qp]at this;omega
    ·simp only[qp]at hv;rw[zm]at bY hv;exact⟨g,hv.1,om⟩
   have aK:Zo A (V fa q o) p.mx:=(bD.out.ext x1).wr t.1 (fun b l=>by
    have bM:b=d:=by rcases l with e|e<;>exact e
    rw[bM];exact⟨fun m=>absurd (m.one ⟨_,_,mS⟩) dc,zE mS (zhT (fa:=fa) (fl:=q) (fc:=o) (n:=p.n) (k:=0) (v:=V_) (by intro aL e;cases e))⟩)
   have ay:=t.1.some m3 (fun e=>by rcases e with e|e<;>omega);have c6:=t.1.size;have aH:=(zd.1 t.2.1).1;have av:=t.2.1;simp only[bgX]at av;have bz:Hid (∀W,Ext A W->RowsM W (V (E ⟨g,((T.rowsS p).length-2*p.n)*4,O⟩) (N.drop ((T.rowsS p).length-2*p.n)).length (u-((T.rowsS p).length-2*p.n))) ((jf p).drop ((T.rowsS p).length-2*p.n)) (N.drop ((T.rowsS p).length-2*p.n))):=fun W F=>by
    have hl:=(t.2.2.1.list.ext F).from (lo:=(T.rowsS p).length-2*p.n) (by rw[zm,a2]) om;refine⟨by rw[Za,Za,zhU,a2],?_,fun i Q r m X=>?_⟩
    ·rw[Za,a2,List.map_drop];exact hl
    ·rw[Jo]at m X;obtain⟨q1,J⟩:=zkT X;have:=(ab _ Q _ m q1).ext F;obtain⟨r1,r2⟩:=r;simp only at q1 J;subst J;exact this
   have aQ:=zf (fun W (F:Ext A W) bt l=>zpE hc W (fa,q,o) p.mx (aK.ext F) b5 bZ bL (N.drop ((T.rowsS p).length-2*p.n)) ((jf p).drop ((T.rowsS p).length-2*p.n)) (E ⟨g,((T.rowsS p).length-2*p.n)*4,O⟩) (u-((T.rowsS p).length-2*p.n)) bt l (bz.out W F) (by rw[Za,zhU];omega) (fun r X=>c4 r (zak X)) bR);rw[bV]at aQ;have az:Hid (∀W,Ext A W->W.cell? (Xd g3 0 O)=E (p_ d 0)/\W.cell? (Xd d 0 O)=E (V fa q o)/\W.cell? (Xd d 1 O)=E (i_ (p.n:Nat))/\W.cell? (Xd d 2 O)=E (i_ ((T.rowsS p).length:Int))/\W.cell? (Xd d 3 O)=E (V (E (Xd g 0 O)) (T.rowsS p).length u)):=fun W F=>by
    have q3:=(F.block _ (zd.1 ay).1).trans ay;have qS:=(F.block _ aH).trans av;exact⟨c_ 0 q3,c_ 0 qS,c_ 1 qS,c_ 2 qS,c_ 3 qS⟩
   have cj:∀W:H,(Instr.slice 120 (V (E (Xd g 0 O)) (T.rowsS p).length u) (E (i_ (((T.rowsS p).length:Int)-2*(p.n:Int)))) O O).run pg W= .ok (V (E ⟨g,((T.rowsS p).length-2*p.n)*4,O⟩) (N.drop ((T.rowsS p).length-2*p.n)).length (u-((T.rowsS p).length-2*p.n))) W:=fun W=>by
    have b2:Tryz.prog.elem 120=106:=by simp[Program.elem,underlying120]
    rw[run_slice_l W 120 _ _ _ (by rw[b2];exact underlying120) Xb _ om om,b2];have e1:(((T.rowsS p).length:Int)-2*(p.n:Int)).toNat=(T.rowsS p).length-2*p.n:=om;rw[e1,Za,a2];have c2:¬(u=(T.rowsS p).length-2*p.n):=om;simp[go_sem,sizeOf,typeInfo,b3,ba,sliced,c2,Addr.add,Result.andThen];exact fun e=>e.symm
   have ck:IntKind.i64.wrap (2*(p.n:Int))=2*(p.n:Int):=zmi _ om om;have cm:IntKind.i64.wrap (((T.rowsS p).length:Int)-2*(p.n:Int))=((T.rowsS p).length:Int)-2*(p.n:Int):=zmi _ om om;have bo:=zf hd;have bl:=zf av;have aR:=zf t.2.2.1;have aA:=zf ab;have bC:=zf aK;have bH:=(zd.1 hd).1;have bv:=zf t.2.2.2.1;have ak:=zf ay;clear t av ay hd ab aK;gi_wp2;refine Jc (S:=fun W=>W.cell? (Xd g3 0 O)=E (p_ d 0)/\W.cell? (Xd d 0 O)=E (V fa q o)/\W.cell? (Xd d 1 O)=E (i_ (p.n:Nat))/\W.cell? (Xd d 2 O)=E (i_ ((T.rowsS p).length:Int))/\W.cell? (Xd d 3 O)=E (V (E (Xd g 0 O)) (T.rowsS p).length u)) hm (az.out A.drew (Xe A).drew) (fun C=>?_);refine tkl [0,1,2,3,4,5,6,7,8,9,10,11,12,13,14,15,16,17,18,19] ?_;refine rcl 20 (zgZ _ _ _ A.drew) ?_;rintro e W1 ⟨rfl,aD⟩;have y1:Ext A W1:=by rw[aD];exact(Xe A).drew.alloc _
   have aP:=zf (aQ.out W1 y1 A.heap.size (by rw[aD,Za,a2];exact c_ 0 (zC A.drew _)));simp only[sl3]at aP;clear aD;refine bk (az.out _ y1) fun C=>?_
   refine rcl 21 aP.out ?_;rintro e R ⟨⟨⟨aa,al,ac⟩,⟨oa,ol,oc⟩,⟨pa,pl,pc⟩,⟨a9,el,ec⟩⟩,aB,rfl,bN,b1,a1⟩;have y2:=y1.trans (Xf a1);have bn:=zf b1;simp only[CT.val,sl3];clear b1 a1 bN;refine bk (az.out _ y2) fun C=>?_
   refine tkl [22,23] ?_;have bS:=(y2.block _ aH).trans bl.out;have k4:=c_ 4 bS;have k5:=c_ 5 bS;have k6:=c_ 6 bS;have k7:=c_ 7 bS;have f4:=Xh (j:=4) bS;have f5:=Xh (j:=5) bS;have f6:=Xh (j:=6) bS;have f7:=Xh (j:=7) bS;have a3:Wr (fun b=>b=d) R ((((R.setCell (Xd d 4 O) (V aa al ac)).setCell (Xd d 5 O) (V oa ol oc)).setCell (Xd d 6 O) (V pa pl pc)).setCell (Xd d 7 O) (V a9 el ec)):=(((zv (U:=fun k=>k=d) rfl _).trans (zv (U:=fun k=>k=d) rfl _)).trans (zv (U:=fun k=>k=d) rfl _)).trans (zv (U:=fun k=>k=d) rfl _);have pZ:((((R.setCell (Xd d 4 O) (V aa al ac)).setCell (Xd d 5 O) (V oa ol oc)).setCell (Xd d 6 O) (V pa pl pc)).setCell (Xd d 7 O) (V a9 el ec)).heap[d]? =E (cl #[V fa q o,i_ (p.n:Nat),i_ ((T.rowsS p).length:Int),V (E (Xd g 0 O)) (T.rowsS p).length u,V aa al ac,V oa ol oc,V pa pl pc,V a9 el ec,V_] 123):=Xl (Xl (Xl (Xl bS)));have aF:∀b,b=d->(¬qQ R b 64/\qK R b)/\¬qQ R b 194:=fun b l=>by
    have m:qQ R b 123:=by rw[l];exact⟨_,_,bS⟩
    exact⟨⟨fun e=>absurd (e.one m) dc,by rw[l];exact zE bS (zhT (fa:=fa) (fl:=q) (fc:=o) (n:=p.n) (k:=(T.rowsS p).length) (v:=V (E (Xd g 0 O)) (T.rowsS p).length u) (by intro aL e;cases e))⟩,fun e=>absurd (e.one m) dc⟩
   have z3:=a3.some ((y2.block _ (zd.1 ak.out).1).trans ak.out) (fun e=>om);have bA:Hid (SrM ((((R.setCell (Xd d 4 O) (V aa al ac)).setCell (Xd d 5 O) (V oa ol oc)).setCell (Xd d 6 O) (V pa pl pc)).setCell (Xd d 7 O) (V a9 el ec)) w.heap.size d p.n (T.rowsS p).length p.mx (fa,q,o) ⟨(aa,al,ac),(oa,ol,oc),(pa,pl,pc),(a9,el,ec)⟩ (V (E (Xd g 0 O)) (T.rowsS p).length u) (V_) (ze7 p) aB (jf p) N [] []):=
    ⟨pZ,by have:=x0.size;omega,(bC.out.ext y2).wr a3 (fun b l=>(aF b l).1),bn.out.wr a3 aF,by rw[a2,zhU],(aR.out.ext y2).same a3.size (fun b l=>a3.block b ((aR.out.ext y2).type b l).1.lt (bv.out b l).1),fun i Q r m X=>by
     obtain⟨q1,J⟩:=zkT X;have:=((aA.out _ Q _ m q1).ext y2).wr a3 (fun b l=>(aF b l).1);obtain⟨r1,r2⟩:=r;simp only at q1 J;subst J;exact this,rfl,Xt _ _ _ _,fun i Q co m=>by simp at m⟩
   have bE:=zf (qk (ai.trans y2) a3 (fun b l=>by have:=x0.size;omega));have aO:=zf (a3.some ((y2.block _ bH).trans bo.out) (fun e=>om));have aU:=zf (Xc (c_ 0 z3) (Xc (c_ 0 pZ) (Xc (c_ 1 pZ) (Xc (c_ 2 pZ) (c_ 3 pZ)))));have c3:=c_ 0 z3;clear pZ a3 z3 bS;refine rd1 24 fun K f=>?_;go_simp;refine f.out _ _ aU.out (h:=fun C=>?_);clear f K;refine zV kr ⟨rfl,?_⟩ _;clear C aU k4 k5 k6 k7 f4 f5 f6 f7;generalize ((((R.setCell (Xd d 4 O) (V aa al ac)).setCell (Xd d 5 O) (V oa ol oc)).setCell (Xd d 6 O) (V pa pl pc)).setCell (Xd d 7 O) (V a9 el ec))=cb at *;gi_wp2;refine qh aO.out ?_;have b4:=zn.putObj (B:=w.heap.size) (.deferred O) (by have:=x0.size;omega) aO.out rfl;exact⟨p_ d 0,by simp[results,results45,go_sem],d,_,_,_,_,_,_,rfl,bA.out.keep b4,b4.below bE.out (zh _) (zh _)⟩
  case stop=>exact fun _ _ _ _ _ _ h _=>h.elim
end

section
open V4
variable {B R n:Nat}
theorem zkU(f g:Nat->L_×Int)(k:Nat):∀n,((((List.range n).flatMap fun i=> [f i,g i]).zipIdx k).map fun x=>((x.1,x.2+1):qO))=(List.range n).flatMap fun i=> [(f i,k+2*i+1),(g i,k+2*i+2)]
 |0=>rfl
 |n+1=>by
  have a:∀m,((List.range m).flatMap fun i=> [f i,g i]).length=2*m:=by
   intro m;induction m with
   |zero=>rfl
   |succ m b=>rw[J6,ZX,zM,b];simp;omega
  rw[J6,ZX,ZX,List.zipIdx_append,Z6,zkU f g k n,a];simp
theorem zmj(p:qF):(T.rowsS p).length=zc1 p+2*p.n:=by
 unfold T.rowsS zc1;rw[zM];congr 1
 generalize p.n=m;have:∀n,((List.range n).flatMap fun i=>T.rangeRows m i (p.rg.getD i (0,0))).length=2*n:=by
  intro n;induction n with
  |zero=>rfl
  |succ n a=>rw[J6,ZX,zM,a];simp[T.rangeRows];omega
 exact this m
theorem zkV(p:qF):(jf p).drop ((T.rowsS p).length-2*p.n)=zcg (rgS p) (zc1 p) p.n:=by
 have e:(T.rowsS p).length-2*p.n=((p.rows.flatMap T.condRows).zipIdx.map fun x=>((x.1,x.2+1):qO)).length:=by
  rw[zmj,zm,List.length_zipIdx];unfold zc1;omega
 rw[e];unfold jf T.rowsS;rw[List.zipIdx_append,Z6,List.drop_left,qt];exact zkU (fun i=>(T.unitRow p.n i,(rgS p i).2)) (fun i=>((T.unitRow p.n i).map (fun z=>-z),-(rgS p i).1)) _ p.n
theorem zmV(p:qF):zb9 p.mx ((jf p).drop ((T.rowsS p).length-2*p.n))=ze7 p:=by rw[zkV];rfl
theorem zmW{p:qF}(h:zc5 p):(jx p.mx ((jf p).drop ((T.rowsS p).length-2*p.n))).length=p.n:=by
 rw[zkV];unfold jx;rw[zek h.m h.n4,zm,zah]
theorem zgt{z:Int}(h:z.natAbs<R):Lim R z:=by unfold Lim;omega
theorem zmk(a:1<=R)(n i:Nat):Zu R (T.unitRow n i):=by
 intro z a;unfold T.unitRow at a;obtain⟨_,_,rfl⟩:=qP.1 a;unfold Lim;split<;>omega
theorem znf{l:L_}(h:Zu R l):Zu R (l.map fun z=>-z):=by
 intro z b;obtain⟨k,a,rfl⟩:=qP.1 b;exact(h k a).neg
theorem zrs{p:qF}(d:1<=R)(e:∀r∈p.rg,r.1.natAbs<R/\r.2.natAbs<R)(f:∀x∈p.rows,(∀z∈x.1,z.natAbs<R)/\x.2.2.natAbs<R):∀r∈T.rowsS p,Jm R r:=by
 intro r a;unfold T.rowsS at a;rcases zU.1 a with a|a
 ·obtain⟨x,h,a⟩:=jj.1 a;obtain⟨b,c⟩:=f x h;have b:Zu R x.1:=fun z f=>zgt (b z f)
  have c:=zgt c;unfold T.condRows at a;rcases zU.1 a with a|a
  ·split at a
   ·cases a
   ·rw[qg.1 a];exact⟨b,c⟩
  ·split at a
   ·cases a
   ·rw[qg.1 a];exact⟨znf b,c.neg⟩
 ·obtain⟨i,_,a⟩:=jj.1 a;have b:Lim R (p.rg.getD i (0,0)).1/\Lim R (p.rg.getD i (0,0)).2:=by
   rw[zk];cases he:p.rg[i]? with
   |none=>exact⟨Xr R,Xr R⟩
   |some r=>have:=e r (zx he);exact⟨zgt this.1,zgt this.2⟩
  unfold T.rangeRows at a;rcases zI.1 a with rfl|a
  ·exact⟨zmk d _ _,b.2⟩
  ·rw[qg.1 a];exact⟨znf (zmk d _ _),b.1.neg⟩
theorem zrt{base a:R_}{rows:List qO}(h:SCnt n base a rows)(h1:∀r∈rows,1<=r.2):rows.length<=base.length+(n+1):=by
 have a:=h.cuts;have e:∀l:List qO,l.length=(l.filter fun r=>decide (base.length<r.2)).length+(l.filter fun r=>!decide (base.length<r.2)).length:=by
  intro l;induction l with
  |nil=>rfl
  |cons b l a=>
   rw[Qz,Qz,qi];by_cases a:base.length<b.2
   ·simp only[a,decide_true,zbu,Bool.not_true,za3,zaK,qi];omega
   ·simp only[a,decide_false,za3,zaK,Bool.not_false,zbu,qi];omega
 have a:((rows.filter fun r=>!decide (base.length<r.2)).map fun r=>r.2).length<=((List.range base.length).map (· + 1)).length:=by
  refine zfy _ _ (zbD (zaM.map _) h.nodup) (fun x c=>?_);obtain⟨r,b,rfl⟩:=qP.1 c;obtain⟨c,d⟩:=ZF.1 b;have b:=h1 r c;simp at d;exact qP.2 ⟨r.2-1,Z8.2 om,om⟩
 rw[zm,zm,zah]at a;have:=e rows;omega
theorem zpL{aims:L_}{c:Cor}{r:Nat}(h:Qy n aims c)(b:r<5)(k:zfP n aims c r)(t:∀e∈c.edges,Jm B e.row):Zm n aims c r<=4*B:=by
 have j:=h.n4;have q:=h.pos;have a:=k.shared;have u:∀e∈c.edges,Zc aims c.over r e<c.over:=by
  intro e a;have d:=zdx h b a;have l:=zcB (rk aims (toV e.loss) r) (show(0:Int)<(c.over:Int)by omega);omega
 have o:c.edges.length<=4:=by rw[h.len];exact j
 obtain⟨e,a,s⟩:=ziD h k;have f:∃i,(Zd n aims c r).1.getD i 0≠0:=by
  refine zas fun p=>?_
  have b:=fun i=>zas fun m=>p ⟨i,m⟩
  rw[zf6 (by rw[k.len,(h.elen e a).2]) (by rw[(h.elen e a).2];exact j),b 0,b 1,b 2,b 3]at s;omega
 obtain⟨i,f⟩:=f;have d:Lim (c.edges.length*(c.over*B)) (c.edges.map fun e=>(Zc aims c.over r e:Int)*e.row.1.getD i 0).sum:=
  zkc (B:=c.over*B) c.edges fun e a=>((Xq (zcw (u e a))).mul ((t e a).1.at i))
 rw[<-k.row i,zd1,zbv,Q9,Zt,jq c.edges.length]at d;have l:=Nat.le_of_mul_le_mul_left d q;have a:Zm n aims c r<=Zm n aims c r*((Zd n aims c r).1.getD i 0).natAbs:=JM _ om;have a:c.edges.length*B<=4*B:=zZ _ o;omega
theorem zru{D K:Nat}(b:jN D K):8*(D*D)<4294967296^K/\4294967296<=4294967296^K:=by
 have c:=b.five;have a:=b.d;have b:D*D<=D*(D*(D*(D*D))):=Zr _ (JM _ (QE a (QE a a)));have b:=QE a (QE a (QE a (QE a a)));have a:K≠0:=by
  rintro rfl;rw[Nat.pow_zero]at c;omega
 refine⟨om,?_⟩;have:=ZD (show 0<4294967296 by decide) (show 1<=K by omega);rw[Nat.pow_one]at this;exact this
def GoQ (p:qF)(R N K:Nat)(rows:List qO)(k:Cor)(ls:List Zy):Prop:=
 ∃led,zcl p.n p.mx (T.rowsS p) rows k ls led/\SCnt p.n (T.rowsS p) (zh5 p) rows/\(∀r∈led,Jm (4^ls.length*R) r)/\ls.length<=N/\∀l∈ls,zaO K l
theorem zfB{a:R_}{rows:List qO}(h:zeO n a rows){r:qO}(b:r∈rows):1<=r.2/\r.2<=a.length:=by
 have a:=(h r b).1;have:=jQ a.2;have:=a.1;omega
theorem zaV{N:Nat}(b:1<=R)(a:4^(N+1)*R=B){k:Nat}(c:k<=N+1):1<=4^k*R/\4^k*R<=B:=by
 refine⟨QE (zbb dc) b,?_⟩;rw[<-a];exact zZ _ (ZD dc c)
theorem goq_p{p:qF}{N K:Nat}(b:zc5 p)(e:(T.rowsS p).length<=20)(c:N=20000)(u:1<=R)(t:4^(N+1)*R=B)(d:jN (JL B) K)(a:Zu R p.mx):GoP (GoQ p R N K) (JL B) K p.n (T.rowsS p).length p.mx:=by
 have F:=zF (zaV u t (zh _)).1 (zaV u t (zh _)).2;have a0:=a.mono (by have:=(zaV u t (qo _)).2;simpa using this);obtain⟨_,_⟩:=zru d;have a:=b.n4;have I:∀{rows k b},GoQ p R N K rows k b->Fit (JL B) p.n p.mx k:=by
  rintro rows k b ⟨y,a,s,hm,w,q⟩;refine zpf a.cor.cor F a0 fun e c=>?_
  exact(hm _ (zx (a.rowsOK _ (a.cor.edge e c)).1.2)).mono (zaV u t om).2
 have S:∀{x:Nat},x<=5*(JL B*JL B)->x<4294967296^K:=fun {x} j=>om
 have Q:∀{k},Fit (JL B) p.n p.mx k->k.over<4294967296^K:=fun {k} f=>by
  have m:=f.overD;have U:JL B<=JL B*JL B:=JM _ d.d;exact S om
 refine⟨I,?_,?_,?_,?_,?_,?_,?_,?_⟩
 ·rintro rows k b ⟨y,a,s,hm,w,q⟩;have:=zrt s (fun r d=>(zfB a.rowsOK d).1);omega
 ·rintro rows k b ⟨y,a,s,hm,w,q⟩ r d;refine⟨(a.rowsOK r d).2,(hm _ (zx (a.rowsOK r d).1.2)).mono ?_⟩;exact zF (zaV u t om).2 (zdA F)
 ·rintro rows k b ⟨y,a,s,hm,w,q⟩;exact q
 ·rintro rows k b r o ⟨y,a,s,hm,w,q⟩ L j;obtain⟨h,l⟩:=zch L;exact⟨y,a.to ((zdy a.rowsOK a.cor h l).2 o j).1,s,hm,w,q⟩
 ·rintro rows k b r o L j;have f:=I o;obtain⟨y,a,s,hm,w,q⟩:=o;obtain⟨h,l⟩:=zch L;have X:=a.len;refine⟨f.pos,Q f,?_,fun a4 l=>?_⟩
  ·have m:(((k.edges.take k.edges.length).map fun e=>(e.num,-T.dotZ r.1.1 e.loss)).filter fun p=>decide (p.2≠0)).length<=((k.edges.take k.edges.length).map fun e=>(e.num,-T.dotZ r.1.1 e.loss)).length:=jB _ _;have z:((k.edges.take k.edges.length).map fun e=>(e.num,-T.dotZ r.1.1 e.loss)).length<=4:=by rw[zm,zX,f.elen];omega
   show([(r.2,(k.over:Int))]++_).length<=1000
   rw[zM,ZH];simp only at m z⊢;omega
  ·rcases zU.1 l with l|l
   ·rw[qg.1 l];have:=zfB a.rowsOK h;exact⟨by simpa using Q f,om,om⟩
   ·obtain⟨e,c,rfl⟩:=qP.1 (ZF.1 l).1;have c:=ZY c;have m:=zfB a.rowsOK (a.cor.edge e c);have U:=(hm _ (zx (a.rowsOK r h).1.2)).mono (zF (zaV u t (show b.length<=N+1 by omega)).2 (zdA F));have D:=(zcC U.1 (f.edge e c).2.2).neg;rw[(a.rowsOK r h).2]at D;simp only at m⊢;refine⟨S (zF (zd1.1 D) (zZ _ om)),om,om⟩
 ·rintro rows k b o;have f:=I o;obtain⟨y,a,s,hm,w,q⟩:=o;have X:=a.len;refine⟨f.pos,Q f,?_,fun a4 l=>?_⟩
  ·have m:(((k.edges.take k.edges.length).map fun e=>(e.num,(qT p.mx e.loss).getD 0 0)).filter fun p=>decide (p.2≠0)).length<=((k.edges.take k.edges.length).map fun e=>(e.num,(qT p.mx e.loss).getD 0 0)).length:=jB _ _;have z:((k.edges.take k.edges.length).map fun e=>(e.num,(qT p.mx e.loss).getD 0 0)).length<=4:=by rw[zm,zX,f.elen];omega
   show([]++_).length<=1000
   rw[Q7];simp only at m z⊢;omega
  ·rcases zU.1 l with l|l
   ·cases l
   ·obtain⟨e,c,rfl⟩:=qP.1 (ZF.1 l).1;have c:=ZY c;have m:=zfB a.rowsOK (a.cor.edge e c);have D:Lim (p.mx.length*(JL B*JL B)) ((qT p.mx e.loss).getD 0 0):=zcC f.aimD (f.edge e c).2.2;rw[f.aim]at D;simp only at m⊢;refine⟨S (zF (zd1.1 D) (zZ _ om)),om,om⟩
 ·rintro rows k b o L;have f:=I o;obtain⟨y,a,s,hm,w,q⟩:=o;have X:=a.len;have h:=a.cor.cor;have J:∀e∈k.edges,Jm (4^b.length*R) e.row:=fun e c=>hm _ (zx (a.rowsOK _ (a.cor.edge e c)).1.2)
  have P:∀r∈qU p.n p.mx k,r<5/\zfP p.n p.mx k r:=fun r d=>by
   obtain⟨m1,Z⟩:=(za4 h).1 d;exact⟨om,zfx h om Z⟩
  have a1:∀r∈qU p.n p.mx k,Jm B (Zd p.n p.mx k r):=fun r d=>by
   obtain⟨C,z⟩:=P r d;have:=zoO h C z J;refine this.mono ?_;have W:=(zaV u t (show b.length+1<=N+1 by omega)).2;rw[Zv,Z5 (4^b.length) 4,Zt]at W;exact W
  have a2:∀r∈qU p.n p.mx k,Qe p.mx k (Zd p.n p.mx k r) ((T.rowsS p).length+b.length+1)=E (Z1 p.n p.mx k ((T.rowsS p).length+b.length+1) r)/\∃Y a3,Exch p.n p.mx k (Zd p.n p.mx k r) ((T.rowsS p).length+b.length+1) (Z1 p.n p.mx k ((T.rowsS p).length+b.length+1) r) Y a3:=fun r d=>by
   obtain⟨C,z⟩:=P r d;obtain⟨x1,x2⟩:=zht h (r:=Zd p.n p.mx k r) z.len (num:=(T.rowsS p).length+b.length+1) (fun e c=>by have:=zfB a.rowsOK (a.cor.edge e c);simp only at this;omega);cases j:Qe p.mx k (Zd p.n p.mx k r) ((T.rowsS p).length+b.length+1)with
   |none=>
    obtain⟨e,c,_⟩:=ziD h z;have:=x1 j e c;omega
   |some c'=>
    have e1:Z1 p.n p.mx k ((T.rowsS p).length+b.length+1) r=c':=by unfold Z1;rw[j];rfl
    rw[e1];exact⟨rfl,x2 c' j⟩
  refine⟨fun r d=>?_,fun r d=>?_,fun r d=>(P r d).2.len,fun r d=>(a1 r d).mono (zdA F),fun r d=>(a2 r d).1,fun r d=>?_⟩
  ·have:=((za4 h).1 d).1;omega
  ·have:=(P r d).2.shared;omega
  ·obtain⟨-,Y,a3,x⟩:=a2 r d;refine zpf x.cor F a0 fun e c=>?_
   obtain⟨i,a2,a0⟩:=qM c;have P:(Z1 p.n p.mx k ((T.rowsS p).length+b.length+1) r).edges[i]? =E e:=by rw[zg a2,a0]
   by_cases a0:i=Y
   ·subst a0;rw[x.new]at P;cases P;exact a1 r d
   ·have d:i<k.edges.length:=by rw[h.len,<-x.cor.len];exact a2
    have Y:=zg d;rw[x.old i _ a0 Y]at P;cases P;exact(J k.edges[i] (zJ d)).mono (zaV u t om).2
 ·rintro rows k b r o L d L;have f:=I o;obtain⟨y,a,s,hm,w,q⟩:=o;have X:=a.len;have h:=a.cor.cor;have o:r∈qU p.n p.mx k:=by
   rcases zdr _ _ _ d with hm|hm
   ·exact hm
   ·cases hm
  obtain⟨m1,Z⟩:=(za4 h).1 o;have C:r<5:=om;have z:=zfx h C Z;have J:∀e∈k.edges,Jm (4^b.length*R) e.row:=fun e c=>hm _ (zx (a.rowsOK _ (a.cor.edge e c)).1.2)
  have o:4*(4^b.length*R)=4^(b.length+1)*R:=by rw[Zv,Z5 (4^b.length) 4,Zt]
  have hcut:=zoO h C z J;rw[o]at hcut;have w:=(zaV u t (show b.length+1<=N+1 by omega)).2;refine⟨_,a.cut a.cor C z,s.cut h _ (fun x j=>by have:=zfB a.rowsOK j;omega) om,fun x j=>?_,so,fun t d=>?_⟩
  ·have s:(b ++ [QX p.n p.mx k r]).length=b.length+1:=sp;rw[s];rcases zU.1 j with j|j
   ·exact(hm x j).mono (by rw[<-o];omega)
   ·rw[qg.1 j];exact hcut
  ·rcases zU.1 d with d|d
   ·exact q t d
   ·rw[qg.1 d];have b:=zpL h C z J;rw[o]at b;have d:=zF b (zF w (zdA F));have b:=Z7 f.overD d;refine⟨?_,S (by show k.over*Zm p.n p.mx k r<=_;omega),?_,fun a4 l=>?_⟩
    ·show k.over*Zm p.n p.mx k r≠0
     have:=QE h.pos z.shared;omega
    ·have m:((k.edges.map fun e=>(e.num,(Zc p.mx k.over r e:Int))).filter fun p=>decide (p.2≠0)).length<=(k.edges.map fun e=>(e.num,(Zc p.mx k.over r e:Int))).length:=jB _ _;rw[zm,f.elen]at m;show(List.filter _ _).length<=1000
     omega
    ·obtain⟨e,c,rfl⟩:=qP.1 (ZF.1 l).1;have m:=zfB a.rowsOK (a.cor.edge e c);have U:=zdx h C c;have a:=h.pos;have D:=zcB (rk p.mx (toV e.loss) r) (show(0:Int)<(k.over:Int)by omega);have W:=Q f;simp only at m⊢;refine⟨by rw[Q9];omega,om,om⟩
theorem zrv{L:Nat}{p:qF}(b:zbU L p)(a:2+p.n<=L)(l:(T.rowsS p).length<=20):∃(D K:Nat) (Q:List qO->Cor->List Zy->Prop),jN D K/\K<=200000/\Zu D p.mx/\(∀r∈jf p,r.1.1.length=p.n/\Jm D r.1)/\GoP Q D K p.n (T.rowsS p).length p.mx/\Q (jf p) (ze7 p) []:=by
 have c:=b.done a;obtain⟨R,hR⟩:∃R:Nat,(10:Nat)^40=R:=⟨_,rfl⟩;have a:1<=R:=by rw[<-hR];exact zbb dc
 have h:R<=2^134:=by rw[<-hR];decide
 have bm:=b.bm;have d:=b.bg;have e:=b.br;rw[hR]at bm d e;clear hR;obtain⟨N,hN⟩:∃N:Nat,N=20000:=⟨_,rfl⟩;obtain⟨B,hB⟩:∃B,4^(N+1)*R=B:=⟨_,rfl⟩;have f:B<=2^(2*(N+1)+134):=by rw[<-hB];exact zra h (zh _)
 have b:=zF (zaV a hB (zh _)).1 (zaV a hB (zh _)).2;have j:jN (JL B) 25100:=zrZ b f om om;have h:Zu R p.mx:=fun z f=>zgt (bm z f)
 have f:R<=B:=by have:=(zaV a hB (qo _)).2;simpa using this
 have k:=zrs a d e;refine⟨JL B,25100,GoQ p R N 25100,j,om,h.mono (zF f (zdA b)),fun r d=>?_,?_,T.rowsS p,ziG c,zhx p,fun r d=>?_,sp,fun e e=>by cases e⟩
 ·obtain⟨i,e,_⟩:=zdz.1 d;have hm:=zx e;exact⟨zjn c _ hm,(k _ hm).mono (zF f (zdA b))⟩
 ·exact goq_p c l hN a hB j h
 ·have:4^([]:List Zy).length*R=R:=sp;rw[this];exact k r d
end

section
open Go.RowKit
variable {B:Nat}{e:Ending}{w:H}
theorem zjM{L:Nat}(p:qF)(cs:List zac)(rs:List RwV)(j k:Nat)(a b:A_)(cap f:Nat)(w:H)(o:B<=w.heap.size)(d:zbU L p)(c:2+p.n<=L)(h:PM p cs rs j k a b w)(F:Tab w)(cuts pivots:Nat)(t:cuts<9223372036854775808)(z:pivots<9223372036854775808):
 C_ 28 #[ag #[V a p.n cap,V b p.rows.length f],i_ (cuts:Int),i_ (pivots:Int)] w fun e w'=>SolQ B p.mx (zbF p cuts pivots) e w'/\b_ w w':=by
 have m:=d.done c;have y:=zit d c;obtain⟨_,_,_,l,q,s,D,u,C⟩:=zrv d c y;exact zmU l q om u w o F a b p.n cap p.rows.length f (jf p) (ze7 p) C (fun W r=>zpK l p cs rs j k a b cap f W d c m.m s (by rw[zmj];omega) D (zmV p) (zmW m) (h.ext r)) cuts pivots t z
def resV:Value:=ag #[i_ 0,V_,gS ⟨#[]⟩,i_ 0,gS ⟨#[]⟩]
def zaj (B:Nat)(s:U_)(cuts pivots:Int)(e:Ending)(w':H):Prop:=
 match JY s with
 |.error x=>e=Xa (tp #[resV,i_ (x.1:Nat),i_ (x.2:Nat)])
 |.ok p=>if cuts<0\/pivots<0 then e=Xa (tp #[resV,i_ 13,i_ 0])
  else ∃(k:Int) (a:A_) (l c:Nat) (t:ByteArray) (n:Int) (g:ByteArray),e=Xa (tp #[ag #[i_ k,V a l c,gS t,i_ n,gS g],i_ 0,i_ 0])/\SolQ B p.mx (zbF p cuts.toNat pivots.toNat) (Xa (ag #[i_ k,V a l c,gS t,i_ n,gS g])) w'
theorem SolQ.five{aims:L_}{o:SOut}(h:SolQ B aims o e w):∃(k:Int) (a:A_) (l c:Nat) (t:ByteArray) (n:Int) (g:ByteArray),e=Xa (ag #[i_ k,V a l c,gS t,i_ n,gS g]):=by
 cases o using SOut.cs with
 |gr k ls=>
  obtain⟨⟨a,l,c⟩,h1,-⟩:=h;exact⟨_,a,l,c,_,_,_,h1⟩
 |no k r ls=>exact⟨_,_,_,_,_,_,_,h⟩
 |li m=>exact⟨_,_,_,_,_,_,_,h⟩
theorem SolQ.wr{aims:L_}{o:SOut}{w':H}{U:Nat->Prop}(h:SolQ B aims o e w)(hw:Wr U w w')(hu:∀b,U b->¬qQ w b 9):SolQ B aims o e w':=by
 cases o using SOut.cs with
 |gr k ls=>
  obtain⟨p,h1,h2⟩:=h;exact⟨p,h1,h2.wr hw hu⟩
 |no k r ls=>exact h
 |li m=>exact h
theorem ziW{f:Nat}{a b c d e:Value}(h:w.heap[f]? =E (cl #[a,b,c,d,e] 35)):¬qQ w f 9:=fun f=>absurd (f.one ⟨_,_,h⟩) dc
theorem zpM(s:U_)(cuts pivots:Int)(w:H)(hB:B<=w.heap.size)(ab:Tab w)(ad:-9223372036854775808<=cuts)(ae:cuts<=9223372036854775807)(ai:-9223372036854775808<=pivots)(aj:pivots<=9223372036854775807):
 C_ 22 #[gS ⟨s.toArray⟩,i_ cuts,i_ pivots] w fun e w'=>zaj B s cuts pivots e w'/\b_ w w':=by
 obtain⟨a5,hR⟩:∃a5,a5=zaj B s cuts pivots:=⟨_,rfl⟩;rw[<-hR];have N:=zf hR;clear hR;obtain⟨r,K⟩:=new1 w (cl #[i_ 0,V_,gS ⟨#[]⟩,i_ 0,gS ⟨#[]⟩] 35);have a4:Hid (∀W,C_ 27 #[gS ⟨s.toArray⟩] W fun e w'=>b_ W w'/\((∃u b:Nat,JY s= .error (u,b)/\0<u/\e=Xa (tp #[ag #[V_,V_],i_ (u:Nat),i_ (b:Nat)]))\/∃p gp vC vR,JY s= .ok p/\e=Xa (tp #[ag #[vC,vR],i_ 0,i_ 0])/\DQ w' gp p vC vR/\zbU (QW s).length p/\2+p.n<=(QW s).length)):=by
  intro W;by_cases hs:2000<s.length
  ·refine(zo5 s hs W).mono ?_;rintro e w' ⟨rfl,j⟩;refine⟨j,.inl ⟨4,0,?_,om,rfl⟩⟩;unfold JY;rw[zQ hs]
  ·exact read_any s om W
 obtain⟨ss,hss⟩:∃ss,(⟨s.toArray⟩:ByteArray)=ss:=⟨_,rfl⟩;rw[hss]at a4⊢;clear hss;go_enter func22,ntmps22
 go_wp2_with fail
 generalize World.alloc _ _=w0 at *;refine(a4.out w0).mono ?_;rintro e w1 ⟨F,⟨u,b,y,ha,rfl⟩|⟨p,gp,vC,vR,y,rfl,a1,S,a7⟩⟩
 ·have ah:¬((u:Int)=0):=om;have C:=zf y;have f:Ext w0 (w1.alloc (cl #[V_,V_] 73)):=(Xf F).alloc _;have c:=(f.block _ (zd.1 r).1).trans r;obtain⟨-,-,⟨t0,t1,t2,t3,t4⟩,f0,f1,f2,f3,f4⟩:=jp c (i_ 0) (V_) (gS ⟨#[]⟩) (i_ 0) (gS ⟨#[]⟩);have h:=zf c;have t:=zf (K.trans f);clear y ha F r c f K;go_wp2;obtain⟨a,d,-⟩:=jp h.out (i_ 0) (V_) (gS ⟨#[]⟩) (i_ 0) (gS ⟨#[]⟩);have k:=c_ 0 a;have l:=c_ 1 a;have m:=c_ 2 a;have o:=c_ 3 a;have q:=c_ 4 a;exact zH (v:=tp #[resV,i_ (u:Nat),i_ (b:Nat)]) (by simp[results,results22,go_sem,resV,k,l,m,o,q]) rfl ⟨by rw[N.out,zaj,C.out],qk t.out d (fun b j=>om)⟩
 ·obtain⟨cs,rs,bc,gR,P,Q,R,T,rfl,rfl,a2⟩:=zrk a1 S a7;have C:=zf y;have f:Ext w0 (w1.alloc (cl #[V P p.n R,V Q p.rows.length T] 73)):=(Xf F).alloc _;have c:=(f.block _ (zd.1 r).1).trans r;have z:=K.trans f;by_cases I:cuts<0\/pivots<0
  ·obtain⟨-,-,⟨t0,t1,t2,t3,t4⟩,f0,f1,f2,f3,f4⟩:=jp c (i_ 0) (V_) (gS ⟨#[]⟩) (i_ 0) (gS ⟨#[]⟩);have L:=zf I;have h:=zf c;have t:=zf z;clear y F r c a1 S a2 f z K;by_cases a6:cuts<0
   ·clear I;go_wp2;obtain⟨a,d,-⟩:=jp h.out (i_ 0) (V_) (gS ⟨#[]⟩) (i_ 0) (gS ⟨#[]⟩);have k:=c_ 0 a;have l:=c_ 1 a;have m:=c_ 2 a;have o:=c_ 3 a;have q:=c_ 4 a;exact zH (v:=tp #[resV,i_ 13,i_ 0]) (by simp[results,results22,go_sem,resV,k,l,m,o,q]) rfl ⟨by rw[N.out,zaj,C.out];simp only[zQ L.out],qk t.out d (fun b j=>om)⟩
   ·have a8:pivots<0:=om;clear I;go_wp2;obtain⟨a,d,-⟩:=jp h.out (i_ 0) (V_) (gS ⟨#[]⟩) (i_ 0) (gS ⟨#[]⟩);have k:=c_ 0 a;have l:=c_ 1 a;have m:=c_ 2 a;have o:=c_ 3 a;have q:=c_ 4 a;exact zH (v:=tp #[resV,i_ 13,i_ 0]) (by simp[results,results22,go_sem,resV,k,l,m,o,q]) rfl ⟨by rw[N.out,zaj,C.out];simp only[zQ L.out],qk t.out d (fun b j=>om)⟩
  ·obtain⟨D,a6⟩:∃D:Nat,cuts=(D:Int):=⟨cuts.toNat,om⟩;obtain⟨J,a8⟩:∃J:Nat,pivots=(J:Int):=⟨pivots.toNat,om⟩;subst a6 a8;have L:Hid (¬((D:Int)<0\/(J:Int)<0)):=I;have a9:=zf (zjM p cs rs bc gR P Q R T _ (zF hB z.size) S a7 (a2.ext ((Xe w1).alloc (cl #[V P p.n R,V Q p.rows.length T] 73))) (ab.below z) D J om om);have n9:=zC w1 (cl #[V P p.n R,V Q p.rows.length T] 73);have c0:=c_ 0 n9;have c1:=c_ 1 n9;have af:¬((D:Int)<0):=om;have ak:¬((J:Int)<0):=om;have t:=zf z;have h:=zf c;clear y F a1 S a2 I n9 c z K f r;go_wp2_with fail
   refine a9.out.mono ?_;rintro e w3 ⟨hq,a0⟩;obtain⟨Z,U,vl,X,vt,vn,Y,rfl⟩:=hq.five;have k7:=((Xf a0).block _ (zd.1 h.out).1).trans h.out;obtain⟨-,-,⟨t0,t1,t2,t3,t4⟩,f0,f1,f2,f3,f4⟩:=jp k7 (i_ Z) (V U vl X) (gS vt) (i_ vn) (gS Y);have a3:=zf k7;have aa:=zf (t.out.trans (Xf a0));have HQ:=zf hq;clear a0 hq k7 c0 c1;go_wp2;obtain⟨a,d,-⟩:=jp a3.out (i_ Z) (V U vl X) (gS vt) (i_ vn) (gS Y);have k:=c_ 0 a;have l:=c_ 1 a;have m:=c_ 2 a;have o:=c_ 3 a;have q:=c_ 4 a;exact zH (v:=tp #[ag #[i_ Z,V U vl X,gS vt,i_ vn,gS Y],i_ 0,i_ 0]) (by simp[results,results22,go_sem,resV,k,l,m,o,q]) rfl ⟨by rw[N.out,zaj,C.out];simp only[zO L.out];exact⟨Z,U,vl,X,vt,vn,Y,rfl,HQ.out.wr d (fun b j=>by rw[j];exact ziW a3.out)⟩,qk aa.out d (fun b j=>om)⟩
theorem zaj.form{s:U_}{cuts pivots:Int}(h:zaj B s cuts pivots e w):∃(m:Int) (d:A_) (o f:Nat) (q:ByteArray) (p:Int) (j:ByteArray) (a b:Int),e=Xa (tp #[ag #[i_ m,V d o f,gS q,i_ p,gS j],i_ a,i_ b]):=by
 unfold zaj at h;split at h
 ·exact⟨0,O,0,0,⟨#[]⟩,0,⟨#[]⟩,_,_,h⟩
 ·split at h
  ·exact⟨0,O,0,0,⟨#[]⟩,0,⟨#[]⟩,_,_,h⟩
  ·obtain⟨k,a,l,c,t,n,g,h,-⟩:=h;exact⟨k,a,l,c,t,n,g,_,_,h⟩
theorem zaj.wr{s:U_}{cuts pivots:Int}{w':H}{U:Nat->Prop}(h:zaj B s cuts pivots e w)(l:Wr U w w')(k:∀b,U b->¬qQ w b 9):zaj B s cuts pivots e w':=by
 unfold zaj at h⊢;split at h
 ·exact h
 ·split at h
  ·rename_i a
   rw[zQ a];exact h
  ·rename_i a
   rw[zO a];obtain⟨m,c,o,d,t,n,g,f,j⟩:=h;exact⟨m,c,o,d,t,n,g,f,j.wr l k⟩
theorem zjN(s:U_)(cuts pivots:Int)(w:H)(Y:B<=w.heap.size)(Z:Tab w)(F:-9223372036854775808<=cuts)(I:cuts<=9223372036854775807)(J:-9223372036854775808<=pivots)(K:pivots<=9223372036854775807):
 C_ 17 #[gS ⟨s.toArray⟩,i_ cuts,i_ pivots] w fun e w'=>zaj B s cuts pivots e w'/\b_ w w':=by
 obtain⟨R,hR⟩:∃R,R=zaj B s cuts pivots:=⟨_,rfl⟩;obtain⟨z,o⟩:=new1 w (cl #[i_ 0,V_,gS ⟨#[]⟩,i_ 0,gS ⟨#[]⟩] 35);have p:=zf (zpM s cuts pivots _ (zF Y o.size) (Z.below o) F I J K);obtain⟨N,hss⟩:∃N,(⟨s.toArray⟩:ByteArray)=N:=⟨_,rfl⟩;rw[hss]at p⊢;have P:Hid (∀e W,R e W->∃(j:Int) (c:A_) (k d:Nat) (m:ByteArray) (l:Int) (f:ByteArray) (r b:Int),e=Xa (tp #[ag #[i_ j,V c k d,gS m,i_ l,gS f],i_ r,i_ b])):=fun e W h=>by rw[hR]at h;exact h.form
 have S:Hid (∀(e:Ending) (W q:H) (U:Nat->Prop),R e W->Wr U W q->(∀b,U b->¬qQ W b 9)->R e q):=fun e W q U h hw hu=>by rw[hR]at h⊢;exact h.wr hw hu
 rw[<-hR]at p⊢;clear hss F I J K hR;go_enter func17,ntmps17
 go_wp2_with fail
 generalize World.alloc _ _=w0 at *;have T:=zf o;clear o;refine p.out.mono ?_;rintro e w3 ⟨u,t⟩;obtain⟨j,c,k,d,m,l,f,r,b,rfl⟩:=P.out _ _ u;have y:=((Xf t).block _ (zd.1 z).1).trans z;obtain⟨-,-,⟨_,_,_,_,_⟩,_,_,_,_,_⟩:=jp y (i_ j) (V c k d) (gS m) (i_ l) (gS f);have C:=zf y;have X:=zf (T.out.trans (Xf t));have Q:=zf u;clear t u y z;go_wp2;obtain⟨a,L,-⟩:=jp C.out (i_ j) (V c k d) (gS m) (i_ l) (gS f);have j0:=c_ 0 a;have j1:=c_ 1 a;have j2:=c_ 2 a;have j3:=c_ 3 a;have j4:=c_ 4 a;exact zH (v:=tp #[ag #[i_ j,V c k d,gS m,i_ l,gS f],i_ r,i_ b]) (by simp[results,results17,go_sem,j0,j1,j2,j3,j4]) rfl ⟨S.out _ _ _ _ Q.out L (fun b D=>by rw[D];exact ziW C.out),qk X.out L (fun b D=>om)⟩
theorem far_eq:(1099511627776:Int).toNat=1099511627776:=rfl
theorem zpN(s:U_)(p:qF)(hs:JY s= .ok p)(w:H)(X:B<=w.heap.size)(Y:Tab w):
 C_ 10 #[gS ⟨s.toArray⟩] w fun e w'=>(∃(k:Int) (a:A_) (l c:Nat) (t:ByteArray) (n:Int) (g:ByteArray),e=Xa (tp #[ag #[i_ k,V a l c,gS t,i_ n,gS g],G true])/\SolQ B p.mx (zbF p 1099511627776 1099511627776) (Xa (ag #[i_ k,V a l c,gS t,i_ n,gS g])) w')/\b_ w w':=by
 obtain⟨D,z⟩:=new1 w (cl #[i_ 0,V_,gS ⟨#[]⟩,i_ 0,gS ⟨#[]⟩] 35);have K:=zf (zjN s 1099511627776 1099511627776 _ (zF X z.size) (Y.below z) dc dc dc dc);have S:=zf hs;obtain⟨Q,hss⟩:∃Q,(⟨s.toArray⟩:ByteArray)=Q:=⟨_,rfl⟩;rw[hss]at K⊢;clear hss hs;go_enter func10,ntmps10
 go_wp2_with fail
 generalize World.alloc _ _=w0 at *;have U:=zf z;clear z;refine K.out.mono ?_;rintro e F ⟨b,N⟩;unfold zaj at b;rw[S.out]at b;simp only at b;rw[zO dc]at b;obtain⟨j,d,m,f,q,o,h,rfl,b⟩:=b;rw[far_eq]at b;have I:Ext w0 (F.alloc (cl #[i_ j,V d m f,gS q,i_ o,gS h] 35)):=(Xf N).alloc _;have r:=zC F (cl #[i_ j,V d m f,gS q,i_ o,gS h] 35);have i0:=c_ 0 r;have i1:=c_ 1 r;have i2:=c_ 2 r;have i3:=c_ 3 r;have i4:=c_ 4 r;have C:=(I.block _ (zd.1 D).1).trans D;obtain⟨-,-,⟨_,_,_,_,_⟩,_,_,_,_,_⟩:=jp C (i_ j) (V d m f) (gS q) (i_ o) (gS h);have J:=zf C;have W:=zf (U.out.trans I);have R:=zf (b.wr (Xg (T:=fun _=>False) ((Xe F).alloc (cl #[i_ j,V d m f,gS q,i_ o,gS h] 35))) (fun L y=>y.elim));clear N b C D r I;go_wp2;obtain⟨u,P,-⟩:=jp J.out (i_ j) (V d m f) (gS q) (i_ o) (gS h);have Z:=c_ 0 u;have j1:=c_ 1 u;have j2:=c_ 2 u;have j3:=c_ 3 u;have j4:=c_ 4 u;exact zH (v:=tp #[ag #[i_ j,V d m f,gS q,i_ o,gS h],G true]) (by simp[results,results10,go_sem,Z,j1,j2,j3,j4]) rfl ⟨⟨j,d,m,f,q,o,h,rfl,R.out.wr P (fun L y=>by rw[y];exact ziW J.out)⟩,qk W.out P (fun L y=>om)⟩
theorem zoe{v:Value}{ss:List ByteArray}(h:ZS w 9 v 1 (ss.map zdh)):zeX w v ss:=by
 rcases h with ⟨rfl,e⟩|⟨g,off,b,a,_,c,d⟩
 ·have:ss= []:=by simpa using e
  subst this;exact⟨O,0,rfl,fun h=>by simp at h⟩
 ·rw[zm]at a;refine⟨_,b,a,fun _=>⟨g,off,rfl,c.lt,fun i z a=>?_⟩⟩;have:=d i (zdh z) (by rw[zR,a];rfl) 0 (gS z) rfl;simpa using this
theorem zmX{mx lo hi:L_}{a:List (L_)}{ss rs:L_}(b:zai mx lo hi a ss rs):JY (ze4 (QA mx lo hi a ss rs))= .ok (QA mx lo hi a ss rs):=by
 have h:=znX (zjC b) (zo9 (zjC b));rw[zmM]at h;exact h (zF (zmP b) dc)
