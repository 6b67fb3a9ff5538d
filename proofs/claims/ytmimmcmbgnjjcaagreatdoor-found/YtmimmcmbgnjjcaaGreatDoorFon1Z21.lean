import Derived.Test.YtmimmcmbgnjjcaaGreatDoorFon1Z20
import Derived.Test.YtmimmcmbgnjjcaaGreatDoorFon1Z14
open Option renaming some->E
open Go.Obj renaming cells->cl
open Go renaming World->H
set_option linter.unusedSimpArgs false
set_option linter.unusedVariables false
namespace Go.Proofs.YtmimmcmbgnjjcaaGreatDoor
open Go.RowKit
attribute [local go_sem] zD zW qJ
def StI (w:H)(tb:Nat)(txt:List UInt8)(v:Value)(oP:Obj)(bt:Nat)(oL:Obj)(Ds:List Nat)(A:H):Prop:=
 Bd w.heap.size tb txt v A/\Below w.heap.size w A/\A.heap[w.heap.size]? =E oP/\A.heap[bt]? =E oL/\∀D∈Ds,A.heap[D]? =E (.deferred (E []))
theorem StI.keep {C:Nat}{w:H}{j:Nat}{txt:List UInt8}{v:Value}{e f:Array Value}{k l:TypeId}{g i:Nat×Nat}{d:Nat}{b:List Nat}{A c:H}(h:StI w j txt v (cl e k g) d (cl f l i) b A)(a:zn C A c)(m:w.heap.size<=C)(o:∀D∈b,D<C):StI w j txt v (cl e k g) d (cl f l i) b c:=
 ⟨h.1.keep a,a.below h.2.1 m (zh _),(a.cells' h.2.2.1 rfl).trans h.2.2.1,(a.cells' h.2.2.2.1 rfl).trans h.2.2.2.1,fun D b=>a.block D _ (h.2.2.2.2 D b) (.inl (o D b))⟩
