import Derived.Test.YtnhfdcfnojnofaaGreatDoorAds1Z28
open Option renaming none->O,some->E
open Go.Value renaming slice->V,bool->G,string->gS
open Go renaming World->H
set_option linter.unusedSimpArgs false
set_option linter.unusedVariables false
namespace Go.Proofs.YtnhfdcfnojnofaaGreatDoor.T
open Go.RowKit
theorem parseS_err {s:List UInt8}{a b:Nat}(h:jj s= .error (a,b)):0<a:=by
 unfold jj at h;split at h
 ·cases h;decide
 ·split at h
  ·cases h;decide
  ·split at h
   ·cases h;decide
   ·split at h
    ·cases h;decide
    ·cases h
def headS (p:qo):List UInt8:=zcU++32::Lib.itoa (p.n:Int) ++ [10]++(zbv++tellS p.mx ++ [10])
theorem ziA (cs:List jU)(i j:Nat)(c:jU)(h:cs[i]? =E c)(a:j<5):(JR cs)[i*5+j]? =c.cells[j]?:=by
 induction cs generalizing i with
 |nil=>simp at h
 |cons t a b=>
  rw[show JR (t::a)=t.cells++JR a by simp[JR]];cases i with
  |zero=>
   simp at h;subst h;rw[zM (by simp[jU.cells];omega),zcD,qi]
  |succ i=>
   rw[zJ (by simp[jU.cells];omega),show(i+1)*5+j-t.cells.length=i*5+j by simp[jU.cells];omega];exact b i (by simpa using h)
theorem zbR.at {B:Nat}{w:H}{v:Value}{rows:List (List Int×List UInt8×Int)}(h:zbR B w v rows)(i:Nat)(r:List Int×List UInt8×Int)(d:rows[i]? =E r):
 ∃(g cap:Nat) (c:jU),v=V (E ⟨g,0,O⟩) rows.length cap/\w.cell? ⟨g,i*5,O⟩=E c.gv/\w.cell? ⟨g,i*5+1,O⟩=E (gS c.s)/\w.cell? ⟨g,i*5+2,O⟩=E (G c.r.b)/\w.cell? ⟨g,i*5+3,O⟩=E c.r.up/\w.cell? ⟨g,i*5+4,O⟩=E c.r.down/\zbQ B w v c r:=by
 obtain⟨a,o,⟨_,⟨_,_⟩|⟨g,cap,_,k,_,m,_,_,_,p⟩⟩,l⟩:=h
 ·have:=(zn.1 d).1;omega
 ·have b:i<a.length:=by have:=(zn.1 d).1;omega
  have e:=zj b;have b:∀j,j<5->w.cell? ⟨g,i*5+j,O⟩=(a[i]).cells[j]?:=by
   intro j n;have f:=ziA a i j _ e n;rw[<-p,QZ om]at f;rw[<-f];simp[World.cell?,m]
  exact⟨g,cap,a[i],by rw[k,o],b 0 om,b 1 om,b 2 om,b 3 om,b 4 om,l i _ r e d⟩
end Go.Proofs.YtnhfdcfnojnofaaGreatDoor.T
