/-
  DERIVED. GIVEN WITH THE SEED: THE CARDS: each row of YtnhokjllhmbaeaaGreatDoorRows.lean that lists a variable, with what it lists TIED to the program's text (the seventh form; the later family's looks); each row that meets fmt, with fmt's text TOLD by the authors' own Lean function (tested against real Go, not proved from fmt's source: count such statements apart). THE CARD IS WHAT COUNTS. Prove the row's statement (the work); the ties are given (YtnhokjllhmbaeaaGreatDoorTie.lean); close each card by the builder's one call (the guide's Derived/Test/ToyasCard.lean, 'card_holds'). Laid BY PROGRAM, IN A SANDBOX (cutbox-door.mjs). By AI agents, Wed Nov 11 2026. No macro, syntax, notation, axiom, sorry.
-/
import Derived.Test.YtnhokjllhmbaeaaGreatDoorRows
import GoSem.ClaimSeven
namespace Go.Proofs.YtnhokjllhmbaeaaGreatDoor
namespace Rows

/-- THE TIED CARD OF 'planeskeep.Found'. -/
def foundCard : Claim7 := { stood := { row := foundRow, standIns := [], harness := (true, "74468e99995176008fec65335b2b5fd722b51323670bd72c03672cf542f0095e"), looks := false }, kinds := [], alts := [], laidByText := true, laidKinds := [.data, .data, .data, .data, .pinned], laidTests := true, laidLooks := .later }
def FoundCardSaid : Prop := Claim7.holds Tryz.pinned (.plain (OpenSpec.ofChange foundSpec)) foundCard

/-- THE TIED CARD OF 'planeskeep.Enough'. -/
def enoughCard : Claim7 := { stood := { row := enoughRow, standIns := [], harness := (true, "74468e99995176008fec65335b2b5fd722b51323670bd72c03672cf542f0095e"), looks := false }, kinds := [], alts := [], laidByText := true, laidKinds := [.data, .data, .data, .data, .pinned], laidTests := true, laidLooks := .later }
def EnoughCardSaid : Prop := Claim7.holds Tryz.pinned (.plain (OpenSpec.ofChange enoughSpec)) enoughCard

/-- THE TIED CARD OF 'planeskeep.Apart'. -/
def apartCard : Claim7 := { stood := { row := apartRow, standIns := [], harness := (true, "74468e99995176008fec65335b2b5fd722b51323670bd72c03672cf542f0095e"), looks := false }, kinds := [], alts := [], laidByText := true, laidKinds := [.data, .data, .data, .data, .pinned], laidTests := true, laidLooks := .later }
def ApartCardSaid : Prop := Claim7.holds Tryz.pinned (.plain (OpenSpec.ofChange apartSpec)) apartCard

/-- THE SECOND FORM's CARD OF 'planeskeep.Found'. -/
def foundUptoCard : Claim7 := { stood := { row := foundUptoRow, standIns := [], harness := (true, "74468e99995176008fec65335b2b5fd722b51323670bd72c03672cf542f0095e"), looks := false }, kinds := [], alts := [], laidByText := true, laidKinds := [.data, .data, .data, .data, .pinned], laidTests := true, laidLooks := .later }
def FoundUptoCardSaid : Prop := Claim7.holds Tryz.pinned (.plain (OpenSpec.upto foundSpec)) foundUptoCard

/-- THE SECOND FORM's CARD OF 'planeskeep.Enough'. -/
def enoughUptoCard : Claim7 := { stood := { row := enoughUptoRow, standIns := [], harness := (true, "74468e99995176008fec65335b2b5fd722b51323670bd72c03672cf542f0095e"), looks := false }, kinds := [], alts := [], laidByText := true, laidKinds := [.data, .data, .data, .data, .pinned], laidTests := true, laidLooks := .later }
def EnoughUptoCardSaid : Prop := Claim7.holds Tryz.pinned (.plain (OpenSpec.upto enoughSpec)) enoughUptoCard

/-- THE SECOND FORM's CARD OF 'planeskeep.Apart'. -/
def apartUptoCard : Claim7 := { stood := { row := apartUptoRow, standIns := [], harness := (true, "74468e99995176008fec65335b2b5fd722b51323670bd72c03672cf542f0095e"), looks := false }, kinds := [], alts := [], laidByText := true, laidKinds := [.data, .data, .data, .data, .pinned], laidTests := true, laidLooks := .later }
def ApartUptoCardSaid : Prop := Claim7.holds Tryz.pinned (.plain (OpenSpec.upto apartSpec)) apartUptoCard
end Rows
end Go.Proofs.YtnhokjllhmbaeaaGreatDoor
