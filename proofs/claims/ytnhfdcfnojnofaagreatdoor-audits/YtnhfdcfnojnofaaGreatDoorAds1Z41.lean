import Derived.Test.YtnhfdcfnojnofaaGreatDoorAds1Z40
open Option renaming some->E
open Go.Obj renaming cells->cl
open Go renaming World->H
set_option linter.unusedSimpArgs false
set_option linter.unusedVariables false
namespace Go.Proofs.YtnhfdcfnojnofaaGreatDoor
open Go.RowKit
attribute [local go_sem] qm qW ZR
def StI (w:H)(tb:Nat)(txt:List UInt8)(v:Value)(oP:Obj)(bt:Nat)(oL:Obj)(Ds:List Nat)(A:H):Prop:=
 Bd w.heap.size tb txt v A/\Below w.heap.size w A/\A.heap[w.heap.size]? =E oP/\A.heap[bt]? =E oL/\∀D∈Ds,A.heap[D]? =E (.deferred (E []))
theorem StI.keep {C:Nat}{w:H}{i:Nat}{txt:List UInt8}{v:Value}{d e:Array Value}{j k:TypeId}{f g:Nat×Nat}{c:Nat}{b:List Nat}{A A':H}(h:StI w i txt v (cl d j f) c (cl e k g) b A)(a:zw C A A')(l:w.heap.size<=C)(m:∀D∈b,D<C):StI w i txt v (cl d j f) c (cl e k g) b A':=
 ⟨h.1.keep a,a.below h.2.1 l (zh _),(a.cells' h.2.2.1 rfl).trans h.2.2.1,(a.cells' h.2.2.2.1 rfl).trans h.2.2.2.1,fun D b=>a.block D _ (h.2.2.2.2 D b) (.inl (m D b))⟩
theorem StI.write {w:H}{a:Nat}{txt p:List UInt8}{v q:Value}{l m:Array Value}{f g:TypeId}{n o:Nat×Nat}{e:Nat}{d:List Nat}{A A2 b:H}(h:StI w a txt v (cl l f n) e (cl m g o) d A)(c:Below A.heap.size A A2)(h1:f≠5)(r:g≠5)(i:a≠w.heap.size/\a≠e/\∀D∈d,a≠D)
 (s:Bd w.heap.size a p q b) (t:Below w.heap.size A2 b) (j:Wr (fun k=>k=a\/v.ownBlock=E k) A2 b):StI w a p q (cl l f n) e (cl m g o) d b:=by
 obtain⟨b,a,d,f,g⟩:=h;have n:=b.sep d (fun l m e=>h1 (by injection e));have o:=b.sep f (fun l m e=>r (by injection e));refine⟨s,(a.trans (c.mono a.size)).trans t,?_,?_,fun D a=>?_⟩
 ·refine j.some ((c.block _ (jn d)).trans d) (fun e=>?_);rcases e with e|e
  ·exact i.1 e.symm
  ·exact n e
 ·refine j.some ((c.block _ (jn f)).trans f) (fun e=>?_);rcases e with e|e
  ·exact i.2.1 e.symm
  ·exact o e
 ·have d:=b.sep (g D a) (fun l m e=>by cases e);refine j.some ((c.block _ (jn (g D a))).trans (g D a)) (fun e=>?_);rcases e with e|e
  ·exact i.2.2 D a e.symm
  ·exact d e
end Go.Proofs.YtnhfdcfnojnofaaGreatDoor
