/-
  DERIVED. GIVEN WITH THE SEED: THE CARDS: each row of YtnhfdcfnojnofaaGreatDoorRows.lean that lists a variable, with what it lists TIED to the program's text (the seventh form; the later family's looks); each row that meets fmt, with fmt's text TOLD by the authors' own Lean function (tested against real Go, not proved from fmt's source: count such statements apart). THE CARD IS WHAT COUNTS. Prove the row's statement (the work); the ties are given (YtnhfdcfnojnofaaGreatDoorTie.lean); close each card by the builder's one call (the guide's Derived/Test/ToyasCard.lean, 'card_holds'). Laid BY PROGRAM, IN A SANDBOX (cutbox-door.mjs). By AI agents, Wed Nov 11 2026. No macro, syntax, notation, axiom, sorry.
-/
import Derived.Test.YtnhfdcfnojnofaaGreatDoorRows
import GoSem.ClaimSeven
namespace Go.Proofs.YtnhfdcfnojnofaaGreatDoor
namespace Rows

/-- THE TIED CARD OF 'planeslaw.Calcs'. -/
def calcsCard : Claim7 := { stood := { row := calcsRow, standIns := [], harness := (true, "a6dcc22712c39273999a817838ea1c5afa2d13be7d12377ec1ac6e600d75463c"), looks := false }, kinds := [], alts := [], laidByText := true, laidKinds := [.data, .data, .data, .data, .pinned], laidTests := true, laidLooks := .later }
def CalcsCardSaid : Prop := Claim7.holds Tryz.pinned (.plain (OpenSpec.ofChange calcsSpec)) calcsCard

/-- THE TIED CARD OF 'planeskeep.Field'. -/
def fieldCard : Claim7 := { stood := { row := fieldRow, standIns := [], harness := (true, "a6dcc22712c39273999a817838ea1c5afa2d13be7d12377ec1ac6e600d75463c"), looks := false }, kinds := [], alts := [], laidByText := true, laidKinds := [.data, .data, .data, .data, .pinned], laidTests := true, laidLooks := .later }
def FieldCardSaid : Prop := Claim7.holds Tryz.pinned (.plain (OpenSpec.ofChange fieldSpec)) fieldCard

/-- THE TIED CARD OF 'planeskeep.Long'. -/
def longCard : Claim7 := { stood := { row := longRow, standIns := [], harness := (true, "a6dcc22712c39273999a817838ea1c5afa2d13be7d12377ec1ac6e600d75463c"), looks := false }, kinds := [], alts := [], laidByText := true, laidKinds := [.data, .data, .data, .data, .pinned], laidTests := true, laidLooks := .later }
def LongCardSaid : Prop := Claim7.holds Tryz.pinned (.plain (OpenSpec.ofChange longSpec)) longCard

/-- THE TIED CARD OF 'planeslaw.Plains'. -/
def plainsCard : Claim7 := { stood := { row := plainsRow, standIns := [], harness := (true, "a6dcc22712c39273999a817838ea1c5afa2d13be7d12377ec1ac6e600d75463c"), looks := false }, kinds := [], alts := [], laidByText := true, laidKinds := [.data, .data, .data, .data, .pinned], laidTests := true, laidLooks := .later }
def PlainsCardSaid : Prop := Claim7.holds Tryz.pinned (.plain (OpenSpec.ofChange plainsSpec)) plainsCard

/-- THE TIED CARD OF 'planeskeep.Plain'. -/
def plainCard : Claim7 := { stood := { row := plainRow, standIns := [], harness := (true, "a6dcc22712c39273999a817838ea1c5afa2d13be7d12377ec1ac6e600d75463c"), looks := false }, kinds := [], alts := [], laidByText := true, laidKinds := [.data, .data, .data, .data, .pinned], laidTests := true, laidLooks := .later }
def PlainCardSaid : Prop := Claim7.holds Tryz.pinned (.plain (OpenSpec.ofChange plainSpec)) plainCard

/-- THE TIED CARD OF 'planeslaw.Audits'. -/
def auditsCard : Claim7 := { stood := { row := auditsRow, standIns := [], harness := (true, "a6dcc22712c39273999a817838ea1c5afa2d13be7d12377ec1ac6e600d75463c"), looks := false }, kinds := [], alts := [], laidByText := true, laidKinds := [.data, .data, .data, .data, .pinned], laidTests := true, laidLooks := .later }
def AuditsCardSaid : Prop := Claim7.holds Tryz.pinned (.plain (OpenSpec.ofChange auditsSpec)) auditsCard

/-- THE TIED CARD OF 'planeslaw.Solves'. -/
def solvesCard : Claim7 := { stood := { row := solvesRow, standIns := [], harness := (true, "a6dcc22712c39273999a817838ea1c5afa2d13be7d12377ec1ac6e600d75463c"), looks := false }, kinds := [], alts := [], laidByText := true, laidKinds := [.data, .data, .data, .data, .pinned], laidTests := true, laidLooks := .later }
def SolvesCardSaid : Prop := Claim7.holds Tryz.pinned (.plain (OpenSpec.ofChange solvesSpec)) solvesCard

/-- THE TIED CARD OF 'planeskeep.Found'. -/
def foundCard : Claim7 := { stood := { row := foundRow, standIns := [], harness := (true, "a6dcc22712c39273999a817838ea1c5afa2d13be7d12377ec1ac6e600d75463c"), looks := false }, kinds := [], alts := [], laidByText := true, laidKinds := [.data, .data, .data, .data, .pinned], laidTests := true, laidLooks := .later }
def FoundCardSaid : Prop := Claim7.holds Tryz.pinned (.plain (OpenSpec.ofChange foundSpec)) foundCard

/-- THE TIED CARD OF 'planeskeep.Shown'. -/
def shownCard : Claim7 := { stood := { row := shownRow, standIns := [], harness := (true, "a6dcc22712c39273999a817838ea1c5afa2d13be7d12377ec1ac6e600d75463c"), looks := false }, kinds := [], alts := [], laidByText := true, laidKinds := [.data, .data, .data, .data, .pinned], laidTests := true, laidLooks := .later }
def ShownCardSaid : Prop := Claim7.holds Tryz.pinned (.plain (OpenSpec.ofChange shownSpec)) shownCard

/-- THE TIED CARD OF 'planeskeep.Sound'. -/
def soundCard : Claim7 := { stood := { row := soundRow, standIns := [], harness := (true, "a6dcc22712c39273999a817838ea1c5afa2d13be7d12377ec1ac6e600d75463c"), looks := false }, kinds := [], alts := [], laidByText := true, laidKinds := [.data, .data, .data, .data, .pinned], laidTests := true, laidLooks := .later }
def SoundCardSaid : Prop := Claim7.holds Tryz.pinned (.plain (OpenSpec.ofChange soundSpec)) soundCard

/-- THE TIED CARD OF 'planeskeep.Enough'. -/
def enoughCard : Claim7 := { stood := { row := enoughRow, standIns := [], harness := (true, "a6dcc22712c39273999a817838ea1c5afa2d13be7d12377ec1ac6e600d75463c"), looks := false }, kinds := [], alts := [], laidByText := true, laidKinds := [.data, .data, .data, .data, .pinned], laidTests := true, laidLooks := .later }
def EnoughCardSaid : Prop := Claim7.holds Tryz.pinned (.plain (OpenSpec.ofChange enoughSpec)) enoughCard

/-- THE TIED CARD OF 'planeskeep.Moved'. -/
def movedCard : Claim7 := { stood := { row := movedRow, standIns := [], harness := (true, "a6dcc22712c39273999a817838ea1c5afa2d13be7d12377ec1ac6e600d75463c"), looks := false }, kinds := [], alts := [], laidByText := true, laidKinds := [.data, .data, .data, .data, .pinned], laidTests := true, laidLooks := .later }
def MovedCardSaid : Prop := Claim7.holds Tryz.pinned (.plain (OpenSpec.ofChange movedSpec)) movedCard

/-- THE SECOND FORM's CARD OF 'planeslaw.Calcs'. -/
def calcsUptoCard : Claim7 := { stood := { row := calcsUptoRow, standIns := [], harness := (true, "a6dcc22712c39273999a817838ea1c5afa2d13be7d12377ec1ac6e600d75463c"), looks := false }, kinds := [], alts := [], laidByText := true, laidKinds := [.data, .data, .data, .data, .pinned], laidTests := true, laidLooks := .later }
def CalcsUptoCardSaid : Prop := Claim7.holds Tryz.pinned (.plain (OpenSpec.upto calcsSpec)) calcsUptoCard

/-- THE SECOND FORM's CARD OF 'planeskeep.Field'. -/
def fieldUptoCard : Claim7 := { stood := { row := fieldUptoRow, standIns := [], harness := (true, "a6dcc22712c39273999a817838ea1c5afa2d13be7d12377ec1ac6e600d75463c"), looks := false }, kinds := [], alts := [], laidByText := true, laidKinds := [.data, .data, .data, .data, .pinned], laidTests := true, laidLooks := .later }
def FieldUptoCardSaid : Prop := Claim7.holds Tryz.pinned (.plain (OpenSpec.upto fieldSpec)) fieldUptoCard

/-- THE SECOND FORM's CARD OF 'planeskeep.Long'. -/
def longUptoCard : Claim7 := { stood := { row := longUptoRow, standIns := [], harness := (true, "a6dcc22712c39273999a817838ea1c5afa2d13be7d12377ec1ac6e600d75463c"), looks := false }, kinds := [], alts := [], laidByText := true, laidKinds := [.data, .data, .data, .data, .pinned], laidTests := true, laidLooks := .later }
def LongUptoCardSaid : Prop := Claim7.holds Tryz.pinned (.plain (OpenSpec.upto longSpec)) longUptoCard

/-- THE SECOND FORM's CARD OF 'planeslaw.Plains'. -/
def plainsUptoCard : Claim7 := { stood := { row := plainsUptoRow, standIns := [], harness := (true, "a6dcc22712c39273999a817838ea1c5afa2d13be7d12377ec1ac6e600d75463c"), looks := false }, kinds := [], alts := [], laidByText := true, laidKinds := [.data, .data, .data, .data, .pinned], laidTests := true, laidLooks := .later }
def PlainsUptoCardSaid : Prop := Claim7.holds Tryz.pinned (.plain (OpenSpec.upto plainsSpec)) plainsUptoCard

/-- THE SECOND FORM's CARD OF 'planeskeep.Plain'. -/
def plainUptoCard : Claim7 := { stood := { row := plainUptoRow, standIns := [], harness := (true, "a6dcc22712c39273999a817838ea1c5afa2d13be7d12377ec1ac6e600d75463c"), looks := false }, kinds := [], alts := [], laidByText := true, laidKinds := [.data, .data, .data, .data, .pinned], laidTests := true, laidLooks := .later }
def PlainUptoCardSaid : Prop := Claim7.holds Tryz.pinned (.plain (OpenSpec.upto plainSpec)) plainUptoCard

/-- THE SECOND FORM's CARD OF 'planeslaw.Audits'. -/
def auditsUptoCard : Claim7 := { stood := { row := auditsUptoRow, standIns := [], harness := (true, "a6dcc22712c39273999a817838ea1c5afa2d13be7d12377ec1ac6e600d75463c"), looks := false }, kinds := [], alts := [], laidByText := true, laidKinds := [.data, .data, .data, .data, .pinned], laidTests := true, laidLooks := .later }
def AuditsUptoCardSaid : Prop := Claim7.holds Tryz.pinned (.plain (OpenSpec.upto auditsSpec)) auditsUptoCard

/-- THE SECOND FORM's CARD OF 'planeslaw.Solves'. -/
def solvesUptoCard : Claim7 := { stood := { row := solvesUptoRow, standIns := [], harness := (true, "a6dcc22712c39273999a817838ea1c5afa2d13be7d12377ec1ac6e600d75463c"), looks := false }, kinds := [], alts := [], laidByText := true, laidKinds := [.data, .data, .data, .data, .pinned], laidTests := true, laidLooks := .later }
def SolvesUptoCardSaid : Prop := Claim7.holds Tryz.pinned (.plain (OpenSpec.upto solvesSpec)) solvesUptoCard

/-- THE SECOND FORM's CARD OF 'planeskeep.Found'. -/
def foundUptoCard : Claim7 := { stood := { row := foundUptoRow, standIns := [], harness := (true, "a6dcc22712c39273999a817838ea1c5afa2d13be7d12377ec1ac6e600d75463c"), looks := false }, kinds := [], alts := [], laidByText := true, laidKinds := [.data, .data, .data, .data, .pinned], laidTests := true, laidLooks := .later }
def FoundUptoCardSaid : Prop := Claim7.holds Tryz.pinned (.plain (OpenSpec.upto foundSpec)) foundUptoCard

/-- THE SECOND FORM's CARD OF 'planeskeep.Shown'. -/
def shownUptoCard : Claim7 := { stood := { row := shownUptoRow, standIns := [], harness := (true, "a6dcc22712c39273999a817838ea1c5afa2d13be7d12377ec1ac6e600d75463c"), looks := false }, kinds := [], alts := [], laidByText := true, laidKinds := [.data, .data, .data, .data, .pinned], laidTests := true, laidLooks := .later }
def ShownUptoCardSaid : Prop := Claim7.holds Tryz.pinned (.plain (OpenSpec.upto shownSpec)) shownUptoCard

/-- THE SECOND FORM's CARD OF 'planeskeep.Sound'. -/
def soundUptoCard : Claim7 := { stood := { row := soundUptoRow, standIns := [], harness := (true, "a6dcc22712c39273999a817838ea1c5afa2d13be7d12377ec1ac6e600d75463c"), looks := false }, kinds := [], alts := [], laidByText := true, laidKinds := [.data, .data, .data, .data, .pinned], laidTests := true, laidLooks := .later }
def SoundUptoCardSaid : Prop := Claim7.holds Tryz.pinned (.plain (OpenSpec.upto soundSpec)) soundUptoCard

/-- THE SECOND FORM's CARD OF 'planeskeep.Enough'. -/
def enoughUptoCard : Claim7 := { stood := { row := enoughUptoRow, standIns := [], harness := (true, "a6dcc22712c39273999a817838ea1c5afa2d13be7d12377ec1ac6e600d75463c"), looks := false }, kinds := [], alts := [], laidByText := true, laidKinds := [.data, .data, .data, .data, .pinned], laidTests := true, laidLooks := .later }
def EnoughUptoCardSaid : Prop := Claim7.holds Tryz.pinned (.plain (OpenSpec.upto enoughSpec)) enoughUptoCard

/-- THE SECOND FORM's CARD OF 'planeskeep.Moved'. -/
def movedUptoCard : Claim7 := { stood := { row := movedUptoRow, standIns := [], harness := (true, "a6dcc22712c39273999a817838ea1c5afa2d13be7d12377ec1ac6e600d75463c"), looks := false }, kinds := [], alts := [], laidByText := true, laidKinds := [.data, .data, .data, .data, .pinned], laidTests := true, laidLooks := .later }
def MovedUptoCardSaid : Prop := Claim7.holds Tryz.pinned (.plain (OpenSpec.upto movedSpec)) movedUptoCard
end Rows
end Go.Proofs.YtnhfdcfnojnofaaGreatDoor
