import Derived.Test.YtnhfdcfnojnofaaGreatDoorAds1Z34
open Option renaming none->O,some->E
open Go.Proofs.Tryz renaming prog->pg
set_option linter.unusedSimpArgs false
set_option linter.unusedVariables false
set_option maxRecDepth 100000
namespace Go.Proofs.YtnhfdcfnojnofaaGreatDoor
open Go.ChangeShapes Go.WideShapes Go.ChangeAt Go.RowKit
def jf0 (P:Program)(f:FuncId)(fn:Func)(s:ChangeSpec)(c:OpenClaim):Bool:=c.wf (OpenSpec.ofChange s)
def jf1 (P:Program)(f:FuncId)(fn:Func)(s:ChangeSpec)(c:OpenClaim):Bool:=laidOutB P
def jf2 (P:Program)(f:FuncId)(fn:Func)(s:ChangeSpec)(c:OpenClaim):Bool:=mapsRowed P
def jf3 (P:Program)(f:FuncId)(fn:Func)(s:ChangeSpec)(c:OpenClaim):Bool:=fn.params.all (P.readableRec ·)
def jf4 (P:Program)(f:FuncId)(fn:Func)(s:ChangeSpec)(c:OpenClaim):Bool:=namedTie P c.named s.vars
def jf5 (P:Program)(f:FuncId)(fn:Func)(s:ChangeSpec)(c:OpenClaim):Bool:=(c.stops == [])
def jf6 (P:Program)(f:FuncId)(fn:Func)(s:ChangeSpec)(c:OpenClaim):Bool:=(P.stops == [])
def jf7 (P:Program)(f:FuncId)(fn:Func)(s:ChangeSpec)(c:OpenClaim):Bool:=(c.knobs == [])
def jf8 (P:Program)(f:FuncId)(fn:Func)(s:ChangeSpec)(c:OpenClaim):Bool:=(P.stopKnobs == [])
def jf9 (P:Program)(f:FuncId)(fn:Func)(s:ChangeSpec)(c:OpenClaim):Bool:=(c.inPlace == P.inPlace f)
def jf10 (P:Program)(f:FuncId)(fn:Func)(s:ChangeSpec)(c:OpenClaim):Bool:=(c.unfollowed == P.unfollowed f)
def jf11 (P:Program)(f:FuncId)(fn:Func)(s:ChangeSpec)(c:OpenClaim):Bool:=(c.recurses == P.recurses f)
def jf12 (P:Program)(f:FuncId)(fn:Func)(s:ChangeSpec)(c:OpenClaim):Bool:=(c.named == P.varsNamed f)
def jf13 (P:Program)(f:FuncId)(fn:Func)(s:ChangeSpec)(c:OpenClaim):Bool:=(c.maps == (fn.params.toList++s.plain.varTypes P).any (P.mapsRec ·))
def jf14 (P:Program)(f:FuncId)(fn:Func)(s:ChangeSpec)(c:OpenClaim):Bool:=(c.ifaces == (fn.params.toList++s.plain.varTypes P).any (P.ifacesRec ·))
def jf15 (P:Program)(f:FuncId)(fn:Func)(s:ChangeSpec)(c:OpenClaim):Bool:=(c.mapsOut == P.mapsAmong fn.resultTypes.toList)
def jf16 (P:Program)(f:FuncId)(fn:Func)(s:ChangeSpec)(c:OpenClaim):Bool:=(c.loops == (fn.params.toList++s.plain.varTypes P).any (P.loopsFrom ·))
def jf17 (P:Program)(f:FuncId)(fn:Func)(s:ChangeSpec)(c:OpenClaim):Bool:=(c.wideKeys == (fn.params.toList++s.plain.varTypes P++fn.resultTypes.toList).any (P.wideKeysFrom ·))
def jf18 (P:Program)(f:FuncId)(fn:Func)(s:ChangeSpec)(c:OpenClaim):Bool:=s.vars.all (P.varReadable ·)
def jf19 (P:Program)(f:FuncId)(fn:Func)(s:ChangeSpec)(c:OpenClaim):Bool:=fn.resultTypes.all (fun t=>P.readableRec t&&decide (t<P.types.size))
def jf20 (P:Program)(f:FuncId)(fn:Func)(s:ChangeSpec)(c:OpenClaim):Bool:=(c.ifacesOut == fn.resultTypes.toList.any (P.ifacesRec ·))
def jf21 (P:Program)(f:FuncId)(fn:Func)(s:ChangeSpec)(c:OpenClaim):Bool:=(c.loopsOut == fn.resultTypes.toList.any (P.loopsFrom ·))
def jf22 (P:Program)(f:FuncId)(fn:Func)(s:ChangeSpec)(c:OpenClaim):Bool:=(c.plainKeys == P.plainKeys)
def jf23 (P:Program)(f:FuncId)(fn:Func)(s:ChangeSpec)(c:OpenClaim):Bool:=c.shortTexts.isNone
def jf24 (P:Program)(f:FuncId)(fn:Func)(s:ChangeSpec)(c:OpenClaim):Bool:=P.stopsHeard
def jf25 (P:Program)(f:FuncId)(fn:Func)(s:ChangeSpec)(c:OpenClaim):Bool:=P.mayEnter
def jf26 (P:Program)(f:FuncId)(fn:Func)(s:ChangeSpec)(c:OpenClaim):Bool:=(c.lifted == P.liftsFinal)
def jf27 (P:Program)(f:FuncId)(fn:Func)(s:ChangeSpec)(c:OpenClaim):Bool:=(P.make == E c.make)
def jf28 (P:Program)(f:FuncId)(fn:Func)(s:ChangeSpec)(c:OpenClaim):Bool:=(c.kinds == (if c.domain.isEmpty then []else fn.params.toList.map fun t=>match P.underlying t with|some (.int k)=>E k|_=>O))
def jf29 (P:Program)(f:FuncId)(fn:Func)(s:ChangeSpec)(c:OpenClaim):Bool:=(c.pinned == c.pinnedBy)
def jf30 (P:Program)(f:FuncId)(fn:Func)(s:ChangeSpec)(c:OpenClaim):Bool:=(c.veiled == (fn.params.toList++s.plain.varTypes P++fn.resultTypes.toList).any (P.veiledRec ·))
def jf31 (P:Program)(f:FuncId)(fn:Func)(s:ChangeSpec)(c:OpenClaim):Bool:=c.veiledFits P fn.params.toList (fn.params.toList++s.plain.varTypes P++fn.resultTypes.toList)
theorem zmK {P:Program}{f:FuncId}{a:Func}{s:ChangeSpec}{c:OpenClaim}(b:jf0 P f a s c=true)(h1:jf1 P f a s c=true)(o:jf2 P f a s c=true)(A:jf3 P f a s c=true)(D:jf4 P f a s c=true)(F:jf5 P f a s c=true)(I:jf6 P f a s c=true)(J:jf7 P f a s c=true)(K:jf8 P f a s c=true)(L:jf9 P f a s c=true)(d:jf10 P f a s c=true)(e:jf11 P f a s c=true)(g:jf12 P f a s c=true)(h:jf13 P f a s c=true)(i:jf14 P f a s c=true)(j:jf15 P f a s c=true)(k:jf16 P f a s c=true)(l:jf17 P f a s c=true)(m:jf18 P f a s c=true)(n:jf19 P f a s c=true)(p:jf20 P f a s c=true)(q:jf21 P f a s c=true)(r:jf22 P f a s c=true)(t:jf23 P f a s c=true)(u:jf24 P f a s c=true)(v:jf25 P f a s c=true)(w:jf26 P f a s c=true)(x:jf27 P f a s c=true)(y:jf28 P f a s c=true)(z:jf29 P f a s c=true)(B:jf30 P f a s c=true)(C:jf31 P f a s c=true):joinedFacts P f a s c=true:=by
 unfold joinedFacts;unfold jf0 at b;unfold jf1 at h1;unfold jf2 at o;unfold jf3 at A;unfold jf4 at D;unfold jf5 at F;unfold jf6 at I;unfold jf7 at J;unfold jf8 at K;unfold jf9 at L;unfold jf10 at d;unfold jf11 at e;unfold jf12 at g;unfold jf13 at h;unfold jf14 at i;unfold jf15 at j;unfold jf16 at k;unfold jf17 at l;unfold jf18 at m;unfold jf19 at n;unfold jf20 at p;unfold jf21 at q;unfold jf22 at r;unfold jf23 at t;unfold jf24 at u;unfold jf25 at v;unfold jf26 at w;unfold jf27 at x;unfold jf28 at y;unfold jf29 at z;unfold jf30 at B;unfold jf31 at C;simp only[b,h1,o,A,D,F,I,J,K,L,d,e,g,h,i,j,k,l,m,n,p,q,r,t,u,v,w,x,z,B,C,Bool.and_true,Bool.and_self,ZE];try exact y
theorem jq1:(laidOutB pg)=true:=by kernel_rfl
theorem jp1 (f:FuncId)(a:Func)(s:ChangeSpec)(c:OpenClaim):jf1 pg f a s c=true:=jq1
theorem jq2:(mapsRowed pg)=true:=by kernel_rfl
theorem jp2 (f:FuncId)(a:Func)(s:ChangeSpec)(c:OpenClaim):jf2 pg f a s c=true:=jq2
theorem jq6:((Tryz.prog.stops == []))=true:=by kernel_rfl
theorem jp6 (f:FuncId)(a:Func)(s:ChangeSpec)(c:OpenClaim):jf6 pg f a s c=true:=jq6
theorem jq8:((Tryz.prog.stopKnobs == []))=true:=by kernel_rfl
theorem jp8 (f:FuncId)(a:Func)(s:ChangeSpec)(c:OpenClaim):jf8 pg f a s c=true:=jq8
theorem jq24:(Tryz.prog.stopsHeard)=true:=by kernel_rfl
theorem jp24 (f:FuncId)(a:Func)(s:ChangeSpec)(c:OpenClaim):jf24 pg f a s c=true:=jq24
theorem jq25:(Tryz.prog.mayEnter)=true:=by kernel_rfl
theorem jp25 (f:FuncId)(a:Func)(s:ChangeSpec)(c:OpenClaim):jf25 pg f a s c=true:=jq25
theorem zox:false=Tryz.prog.looks []:=by kernel_rfl
end Go.Proofs.YtnhfdcfnojnofaaGreatDoor
