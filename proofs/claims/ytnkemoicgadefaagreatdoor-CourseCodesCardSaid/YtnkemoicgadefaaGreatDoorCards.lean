/-
  DERIVED. GIVEN WITH THE SEED: THE CARDS: each row of YtnkemoicgadefaaGreatDoorRows.lean that lists a variable, with what it lists TIED to the program's text (the seventh form; the later family's looks); each row that meets fmt, with fmt's text TOLD by the authors' own Lean function (tested against real Go, not proved from fmt's source: count such statements apart). THE CARD IS WHAT COUNTS. Prove the row's statement (the work); the ties are given (YtnkemoicgadefaaGreatDoorTie.lean); close each card by the builder's one call (the guide's Derived/Test/ToyasCard.lean, 'card_holds'). Laid BY PROGRAM, IN A SANDBOX (cutbox-door.mjs). By AI agents, Wed Nov 11 2026. No macro, syntax, notation, axiom, sorry.
-/
import Derived.Test.YtnkemoicgadefaaGreatDoorRows
import GoSem.ClaimSeven
namespace Go.Proofs.YtnkemoicgadefaaGreatDoor
namespace Rows

/-- THE TIED CARD OF 'quadriviumlaw07.CourseCodes'. -/
def courseCodesCard : Claim7 := { stood := { row := courseCodesRow, standIns := [], harness := (true, "638cf857520824dc8d1d65e51b6c5d8641a91e7ca80ce686a97ff4999281f69c"), looks := true }, kinds := [], alts := [], laidByText := true, laidKinds := [.data, .data, .data, .sentinel, .sentinel], laidTests := true, laidLooks := .later }
def CourseCodesCardSaid : Prop := Claim7.holds Tryz.pinned (.plain (OpenSpec.ofChange courseCodesSpec)) courseCodesCard

/-- THE SECOND FORM's CARD OF 'quadriviumlaw07.CourseCodes'. -/
def courseCodesUptoCard : Claim7 := { stood := { row := courseCodesUptoRow, standIns := [], harness := (true, "638cf857520824dc8d1d65e51b6c5d8641a91e7ca80ce686a97ff4999281f69c"), looks := true }, kinds := [], alts := [], laidByText := true, laidKinds := [.data, .data, .data, .sentinel, .sentinel], laidTests := true, laidLooks := .later }
def CourseCodesUptoCardSaid : Prop := Claim7.holds Tryz.pinned (.plain (OpenSpec.upto courseCodesSpec)) courseCodesUptoCard
end Rows
end Go.Proofs.YtnkemoicgadefaaGreatDoor
