import Derived.Test.YtnhfdcfnojnofaaGreatDoorAds1Z13
open Option renaming none->O,some->E
open Go.Value renaming bool->G,string->gS,tuple->tp,int->it
open Go renaming World->H
open Go.Proofs.Tryz renaming prog->pg
set_option linter.unusedSimpArgs false
set_option linter.unusedVariables false
namespace Go.Proofs.YtnhfdcfnojnofaaGreatDoor
open Go.RowKit
def Gl (w:H):Prop:=Tab w/\∃mx,w.cell? ⟨1,0,O⟩=E (it .i64 mx)/\1<w.heap.size
theorem Gl.below {w w':H}(h:Gl w)(a:Below w.heap.size w w'):Gl w':=by
 obtain⟨c,e,d,b⟩:=h;exact⟨c.below a,e,(a.cell (p:=⟨1,0,O⟩) b).trans d,zv b a.size⟩
def ParseOK (s:ByteArray)(p:Int)(q:Nat):Prop:=∀W,Gl W->Calls pg 56 #[gS s,it .i64 40] W fun e w'=>∃x,e= .returned (tp #[x,G true])/\qP w' x p q/\Below W.heap.size W w'
end Go.Proofs.YtnhfdcfnojnofaaGreatDoor
