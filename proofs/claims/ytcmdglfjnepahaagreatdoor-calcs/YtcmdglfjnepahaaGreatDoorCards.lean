/-
  DERIVED. GIVEN WITH THE SEED: THE CARDS: each row of YtcmdglfjnepahaaGreatDoorRows.lean that lists a variable, with what it lists TIED to the program's text (the seventh form; the later family's looks); each row that meets fmt, with fmt's text TOLD by the authors' own Lean function (tested against real Go, not proved from fmt's source: count such statements apart). THE CARD IS WHAT COUNTS. Prove the row's statement (the work); the ties are given (YtcmdglfjnepahaaGreatDoorTie.lean); close each card by the builder's one call (the guide's Derived/Test/ToyasCard.lean, 'card_holds'). Laid BY PROGRAM, IN A SANDBOX (cutbox-door.mjs). By AI agents, Wed Nov 11 2026. No macro, syntax, notation, axiom, sorry.
-/
import Derived.Test.YtcmdglfjnepahaaGreatDoorRows
import GoSem.ClaimSeven
namespace Go.Proofs.YtcmdglfjnepahaaGreatDoor
namespace Rows

/-- THE TIED CARD OF 'planeslaw.Calcs'. -/
def calcsCard : Claim7 := { stood := { row := calcsRow, standIns := [], harness := (true, "b31917675c2353cb41611d4484861505f0abc6644d0f23b146eae971ebdf477f"), looks := false }, kinds := [], alts := [], laidByText := true, laidKinds := [.data, .data, .data, .data, .pinned], laidTests := true, laidLooks := .later }
def CalcsCardSaid : Prop := Claim7.holds Tryz.pinned (.plain (OpenSpec.ofChange calcsSpec)) calcsCard

/-- THE TIED CARD OF 'planeskeep.Field'. -/
def fieldCard : Claim7 := { stood := { row := fieldRow, standIns := [], harness := (true, "b31917675c2353cb41611d4484861505f0abc6644d0f23b146eae971ebdf477f"), looks := false }, kinds := [], alts := [], laidByText := true, laidKinds := [.data, .data, .data, .data, .pinned], laidTests := true, laidLooks := .later }
def FieldCardSaid : Prop := Claim7.holds Tryz.pinned (.plain (OpenSpec.ofChange fieldSpec)) fieldCard

/-- THE TIED CARD OF 'planeskeep.Long'. -/
def longCard : Claim7 := { stood := { row := longRow, standIns := [], harness := (true, "b31917675c2353cb41611d4484861505f0abc6644d0f23b146eae971ebdf477f"), looks := false }, kinds := [], alts := [], laidByText := true, laidKinds := [.data, .data, .data, .data, .pinned], laidTests := true, laidLooks := .later }
def LongCardSaid : Prop := Claim7.holds Tryz.pinned (.plain (OpenSpec.ofChange longSpec)) longCard

/-- THE SECOND FORM's CARD OF 'planeslaw.Calcs'. -/
def calcsUptoCard : Claim7 := { stood := { row := calcsUptoRow, standIns := [], harness := (true, "b31917675c2353cb41611d4484861505f0abc6644d0f23b146eae971ebdf477f"), looks := false }, kinds := [], alts := [], laidByText := true, laidKinds := [.data, .data, .data, .data, .pinned], laidTests := true, laidLooks := .later }
def CalcsUptoCardSaid : Prop := Claim7.holds Tryz.pinned (.plain (OpenSpec.upto calcsSpec)) calcsUptoCard

/-- THE SECOND FORM's CARD OF 'planeskeep.Field'. -/
def fieldUptoCard : Claim7 := { stood := { row := fieldUptoRow, standIns := [], harness := (true, "b31917675c2353cb41611d4484861505f0abc6644d0f23b146eae971ebdf477f"), looks := false }, kinds := [], alts := [], laidByText := true, laidKinds := [.data, .data, .data, .data, .pinned], laidTests := true, laidLooks := .later }
def FieldUptoCardSaid : Prop := Claim7.holds Tryz.pinned (.plain (OpenSpec.upto fieldSpec)) fieldUptoCard

/-- THE SECOND FORM's CARD OF 'planeskeep.Long'. -/
def longUptoCard : Claim7 := { stood := { row := longUptoRow, standIns := [], harness := (true, "b31917675c2353cb41611d4484861505f0abc6644d0f23b146eae971ebdf477f"), looks := false }, kinds := [], alts := [], laidByText := true, laidKinds := [.data, .data, .data, .data, .pinned], laidTests := true, laidLooks := .later }
def LongUptoCardSaid : Prop := Claim7.holds Tryz.pinned (.plain (OpenSpec.upto longSpec)) longUptoCard
end Rows
end Go.Proofs.YtcmdglfjnepahaaGreatDoor
