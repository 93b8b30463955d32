/-
  DERIVED. GIVEN WITH THE SEED: THE CARDS: each row of YtimfajmknmlajaaGreatDoorRows.lean that lists a variable, with what it lists TIED to the program's text (the seventh form; the later family's looks); each row that meets fmt, with fmt's text TOLD by the authors' own Lean function (tested against real Go, not proved from fmt's source: count such statements apart). THE CARD IS WHAT COUNTS. Prove the row's statement (the work); the ties are given (YtimfajmknmlajaaGreatDoorTie.lean); close each card by the builder's one call (the guide's Derived/Test/ToyasCard.lean, 'card_holds'). Laid BY PROGRAM, IN A SANDBOX (cutbox-door.mjs). By AI agents, Wed Nov 11 2026. No macro, syntax, notation, axiom, sorry.
-/
import Derived.Test.YtimfajmknmlajaaGreatDoorRows
import GoSem.ClaimSeven
namespace Go.Proofs.YtimfajmknmlajaaGreatDoor
namespace Rows

/-- THE TIED CARD OF 'placketlaw21.SessPlays'. -/
def sessPlaysCard : Claim7 := { stood := { row := sessPlaysRow, standIns := [], harness := (true, "bbd072ac253439aa1a1813d5f45a11f88459c9edf00beebc05ee05d70ebc4354"), looks := true }, kinds := [], alts := [], laidByText := true, laidKinds := [.handle], laidTests := true, laidLooks := .later }
def SessPlaysCardSaid : Prop := Claim7.holds Tryz.pinned (.plain (OpenSpec.ofChange sessPlaysSpec)) sessPlaysCard

/-- THE TIED CARD OF 'placketlaw21.SessStill'. -/
def sessStillCard : Claim7 := { stood := { row := sessStillRow, standIns := [], harness := (true, "bbd072ac253439aa1a1813d5f45a11f88459c9edf00beebc05ee05d70ebc4354"), looks := true }, kinds := [], alts := [], laidByText := true, laidKinds := [.handle], laidTests := true, laidLooks := .later }
def SessStillCardSaid : Prop := Claim7.holds Tryz.pinned (.plain (OpenSpec.ofChange sessStillSpec)) sessStillCard

/-- THE SECOND FORM's CARD OF 'placketlaw21.SessPlays'. -/
def sessPlaysUptoCard : Claim7 := { stood := { row := sessPlaysUptoRow, standIns := [], harness := (true, "bbd072ac253439aa1a1813d5f45a11f88459c9edf00beebc05ee05d70ebc4354"), looks := true }, kinds := [], alts := [], laidByText := true, laidKinds := [.handle], laidTests := true, laidLooks := .later }
def SessPlaysUptoCardSaid : Prop := Claim7.holds Tryz.pinned (.plain (OpenSpec.upto sessPlaysSpec)) sessPlaysUptoCard

/-- THE SECOND FORM's CARD OF 'placketlaw21.SessStill'. -/
def sessStillUptoCard : Claim7 := { stood := { row := sessStillUptoRow, standIns := [], harness := (true, "bbd072ac253439aa1a1813d5f45a11f88459c9edf00beebc05ee05d70ebc4354"), looks := true }, kinds := [], alts := [], laidByText := true, laidKinds := [.handle], laidTests := true, laidLooks := .later }
def SessStillUptoCardSaid : Prop := Claim7.holds Tryz.pinned (.plain (OpenSpec.upto sessStillSpec)) sessStillUptoCard
end Rows
end Go.Proofs.YtimfajmknmlajaaGreatDoor
