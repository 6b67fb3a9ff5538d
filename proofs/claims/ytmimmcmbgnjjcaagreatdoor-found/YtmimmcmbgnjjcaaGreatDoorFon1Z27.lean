import Derived.Test.YtmimmcmbgnjjcaaGreatDoorFon1Z9
set_option linter.unusedSimpArgs false
set_option linter.unusedVariables false
namespace Go.Proofs.YtmimmcmbgnjjcaaGreatDoor
namespace T
open Go.RowKit
theorem zo2 (z:Int):Lib.itoa z=jL z 1:=by rw[jL,zQ rfl]
theorem told_len (zs:List Int)(h:∀z∈zs,z.natAbs<10^40)(a:zs.length<=4):(ByteArray.mk (QF zs).toArray).size<=600:=by
 rw[zfg];have c:∀zs:List Int,(∀z∈zs,z.natAbs<10^40)->(QF zs).length<=zs.length*100:=by
  intro zs;induction zs with
  |nil=>intro _;simp[QF]
  |cons z zs b=>
   intro h;have a:=b (fun y b=>h y (by simp[b]));have b:=zqA (p:=z) (q:=1) (K:=11) (zbr (h z sp) dc) dc;rw[<-zo2]at b;unfold QF at a⊢;rw[Qo,zM,qi,qi];omega
 have:=c zs h;omega
def headS (p:qF):List UInt8:=zan++32::Lib.itoa (p.n:Int) ++ [10]++(zbB++QF p.mx ++ [10])
theorem itoa_nat (n:Nat):Lib.itoa (n:Int)=Lib.decDigits n:=by
 unfold Lib.itoa;rw[zO om];simp
theorem headS_bytes (p:qF):(⟨#[118,97,114,115,32]⟩:ByteArray)++⟨(Lib.decDigits p.n).toArray⟩++⟨#[10,109,97,120]⟩++⟨(QF p.mx).toArray⟩++⟨#[10]⟩=⟨(headS p).toArray⟩:=by
 have a:(⟨#[118,97,114,115,32]⟩:ByteArray)=⟨([118,97,114,115,32]:List UInt8).toArray⟩:=rfl;have b:(⟨#[10,109,97,120]⟩:ByteArray)=⟨([10,109,97,120]:List UInt8).toArray⟩:=rfl;have c:(⟨#[10]⟩:ByteArray)=⟨([10]:List UInt8).toArray⟩:=rfl;rw[a,b,c,JW,JW,JW,JW];unfold headS;rw[itoa_nat];simp[zan,zbB]
