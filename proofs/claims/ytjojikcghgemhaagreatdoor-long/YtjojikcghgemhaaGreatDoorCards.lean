/-
  DERIVED. GIVEN WITH THE SEED: THE CARDS: each row of YtjojikcghgemhaaGreatDoorRows.lean that lists a variable, with what it lists TIED to the program's text (the seventh form; the later family's looks); each row that meets fmt, with fmt's text TOLD by the authors' own Lean function (tested against real Go, not proved from fmt's source: count such statements apart). THE CARD IS WHAT COUNTS. Prove the row's statement (the work); the ties are given (YtjojikcghgemhaaGreatDoorTie.lean); close each card by the builder's one call (the guide's Derived/Test/ToyasCard.lean, 'card_holds'). Laid BY PROGRAM, IN A SANDBOX (cutbox-door.mjs). By AI agents, Wed Nov 11 2026. No macro, syntax, notation, axiom, sorry.
-/
import Derived.Test.YtjojikcghgemhaaGreatDoorRows
import GoSem.ClaimSeven
namespace Go.Proofs.YtjojikcghgemhaaGreatDoor
namespace Rows

/-- THE TIED CARD OF 'planeslaw.Calcs'. -/
def calcsCard : Claim7 := { stood := { row := calcsRow, standIns := [], harness := (true, "8602ece3d21e840689e0d0c70b07eb5d3b232011a931603035ee251a387584a5"), looks := false }, kinds := [], alts := [], laidByText := true, laidKinds := [.data, .data, .data, .data, .pinned], laidTests := true, laidLooks := .later }
def CalcsCardSaid : Prop := Claim7.holds Tryz.pinned (.plain (OpenSpec.ofChange calcsSpec)) calcsCard

/-- THE TIED CARD OF 'planeskeep.Field'. -/
def fieldCard : Claim7 := { stood := { row := fieldRow, standIns := [], harness := (true, "8602ece3d21e840689e0d0c70b07eb5d3b232011a931603035ee251a387584a5"), looks := false }, kinds := [], alts := [], laidByText := true, laidKinds := [.data, .data, .data, .data, .pinned], laidTests := true, laidLooks := .later }
def FieldCardSaid : Prop := Claim7.holds Tryz.pinned (.plain (OpenSpec.ofChange fieldSpec)) fieldCard

/-- THE TIED CARD OF 'planeskeep.Long'. -/
def longCard : Claim7 := { stood := { row := longRow, standIns := [], harness := (true, "8602ece3d21e840689e0d0c70b07eb5d3b232011a931603035ee251a387584a5"), looks := false }, kinds := [], alts := [], laidByText := true, laidKinds := [.data, .data, .data, .data, .pinned], laidTests := true, laidLooks := .later }
def LongCardSaid : Prop := Claim7.holds Tryz.pinned (.plain (OpenSpec.ofChange longSpec)) longCard

/-- THE TIED CARD OF 'planeslaw.Plains'. -/
def plainsCard : Claim7 := { stood := { row := plainsRow, standIns := [], harness := (true, "8602ece3d21e840689e0d0c70b07eb5d3b232011a931603035ee251a387584a5"), looks := false }, kinds := [], alts := [], laidByText := true, laidKinds := [.data, .data, .data, .data, .pinned], laidTests := true, laidLooks := .later }
def PlainsCardSaid : Prop := Claim7.holds Tryz.pinned (.plain (OpenSpec.ofChange plainsSpec)) plainsCard

/-- THE TIED CARD OF 'planeskeep.Plain'. -/
def plainCard : Claim7 := { stood := { row := plainRow, standIns := [], harness := (true, "8602ece3d21e840689e0d0c70b07eb5d3b232011a931603035ee251a387584a5"), looks := false }, kinds := [], alts := [], laidByText := true, laidKinds := [.data, .data, .data, .data, .pinned], laidTests := true, laidLooks := .later }
def PlainCardSaid : Prop := Claim7.holds Tryz.pinned (.plain (OpenSpec.ofChange plainSpec)) plainCard

/-- THE SECOND FORM's CARD OF 'planeslaw.Calcs'. -/
def calcsUptoCard : Claim7 := { stood := { row := calcsUptoRow, standIns := [], harness := (true, "8602ece3d21e840689e0d0c70b07eb5d3b232011a931603035ee251a387584a5"), looks := false }, kinds := [], alts := [], laidByText := true, laidKinds := [.data, .data, .data, .data, .pinned], laidTests := true, laidLooks := .later }
def CalcsUptoCardSaid : Prop := Claim7.holds Tryz.pinned (.plain (OpenSpec.upto calcsSpec)) calcsUptoCard

/-- THE SECOND FORM's CARD OF 'planeskeep.Field'. -/
def fieldUptoCard : Claim7 := { stood := { row := fieldUptoRow, standIns := [], harness := (true, "8602ece3d21e840689e0d0c70b07eb5d3b232011a931603035ee251a387584a5"), looks := false }, kinds := [], alts := [], laidByText := true, laidKinds := [.data, .data, .data, .data, .pinned], laidTests := true, laidLooks := .later }
def FieldUptoCardSaid : Prop := Claim7.holds Tryz.pinned (.plain (OpenSpec.upto fieldSpec)) fieldUptoCard

/-- THE SECOND FORM's CARD OF 'planeskeep.Long'. -/
def longUptoCard : Claim7 := { stood := { row := longUptoRow, standIns := [], harness := (true, "8602ece3d21e840689e0d0c70b07eb5d3b232011a931603035ee251a387584a5"), looks := false }, kinds := [], alts := [], laidByText := true, laidKinds := [.data, .data, .data, .data, .pinned], laidTests := true, laidLooks := .later }
def LongUptoCardSaid : Prop := Claim7.holds Tryz.pinned (.plain (OpenSpec.upto longSpec)) longUptoCard

/-- THE SECOND FORM's CARD OF 'planeslaw.Plains'. -/
def plainsUptoCard : Claim7 := { stood := { row := plainsUptoRow, standIns := [], harness := (true, "8602ece3d21e840689e0d0c70b07eb5d3b232011a931603035ee251a387584a5"), looks := false }, kinds := [], alts := [], laidByText := true, laidKinds := [.data, .data, .data, .data, .pinned], laidTests := true, laidLooks := .later }
def PlainsUptoCardSaid : Prop := Claim7.holds Tryz.pinned (.plain (OpenSpec.upto plainsSpec)) plainsUptoCard

/-- THE SECOND FORM's CARD OF 'planeskeep.Plain'. -/
def plainUptoCard : Claim7 := { stood := { row := plainUptoRow, standIns := [], harness := (true, "8602ece3d21e840689e0d0c70b07eb5d3b232011a931603035ee251a387584a5"), looks := false }, kinds := [], alts := [], laidByText := true, laidKinds := [.data, .data, .data, .data, .pinned], laidTests := true, laidLooks := .later }
def PlainUptoCardSaid : Prop := Claim7.holds Tryz.pinned (.plain (OpenSpec.upto plainSpec)) plainUptoCard
end Rows
end Go.Proofs.YtjojikcghgemhaaGreatDoor
