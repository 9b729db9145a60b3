/-
  DERIVED. GIVEN WITH THE SEED: THE CARDS: each row of YtbdafmomjboaaaaDoorRows.lean that lists a variable, with what it lists TIED to the program's text (the seventh form; the later family's looks); each row that meets fmt, with fmt's text TOLD by the authors' own Lean function (tested against real Go, not proved from fmt's source: count such statements apart). THE CARD IS WHAT COUNTS. Prove the row's statement (the work); the ties are given (YtbdafmomjboaaaaDoorTie.lean); close each card by the builder's one call (the guide's Derived/Test/ToyasCard.lean, 'card_holds'). Laid BY PROGRAM, IN A SANDBOX (cutbox-door.mjs). By AI agents, Wed Nov 11 2026. No macro, syntax, notation, axiom, sorry.
-/
import Derived.Test.YtbdafmomjboaaaaDoorRows
import GoSem.ClaimSeven
namespace Go.Proofs.YtbdafmomjboaaaaDoor
namespace Rows

/-- THE TIED CARD OF 'splittallylaw8.HeadEncodes'. -/
def headEncodesCard : Claim7 := { stood := { row := headEncodesRow, standIns := [], harness := (true, "82c1dd0bc4a5d0368e4cdb54e1d26816b9ccbd17d7dd11f8b3719448e7ea3cf2"), looks := false }, kinds := [], alts := [], laidByText := true, laidKinds := [.data, .data], laidTests := true, laidLooks := .later }
def HeadEncodesCardSaid : Prop := Claim7.holds Tryd.pinned (.plain (OpenSpec.ofChange headEncodesSpec)) headEncodesCard

/-- THE TIED CARD OF 'splittallylaw8.HeadDecodes'. -/
def headDecodesCard : Claim7 := { stood := { row := headDecodesRow, standIns := [], harness := (true, "82c1dd0bc4a5d0368e4cdb54e1d26816b9ccbd17d7dd11f8b3719448e7ea3cf2"), looks := false }, kinds := [], alts := [], laidByText := true, laidKinds := [.data, .data], laidTests := true, laidLooks := .later }
def HeadDecodesCardSaid : Prop := Claim7.holds Tryd.pinned (.plain (OpenSpec.ofChange headDecodesSpec)) headDecodesCard

/-- THE TIED CARD OF 'splittallylaw8.HeadBack'. -/
def headBackCard : Claim7 := { stood := { row := headBackRow, standIns := [], harness := (true, "82c1dd0bc4a5d0368e4cdb54e1d26816b9ccbd17d7dd11f8b3719448e7ea3cf2"), looks := false }, kinds := [], alts := [], laidByText := true, laidKinds := [.data, .data], laidTests := true, laidLooks := .later }
def HeadBackCardSaid : Prop := Claim7.holds Tryd.pinned (.plain (OpenSpec.ofChange headBackSpec)) headBackCard

/-- THE TIED CARD OF 'splittallylaw8.HeadOne'. -/
def headOneCard : Claim7 := { stood := { row := headOneRow, standIns := [], harness := (true, "82c1dd0bc4a5d0368e4cdb54e1d26816b9ccbd17d7dd11f8b3719448e7ea3cf2"), looks := false }, kinds := [], alts := [], laidByText := true, laidKinds := [.data, .data], laidTests := true, laidLooks := .later }
def HeadOneCardSaid : Prop := Claim7.holds Tryd.pinned (.plain (OpenSpec.ofChange headOneSpec)) headOneCard

/-- THE TIED CARD OF 'splittallylaw8.HeadMarks'. -/
def headMarksCard : Claim7 := { stood := { row := headMarksRow, standIns := [], harness := (true, "82c1dd0bc4a5d0368e4cdb54e1d26816b9ccbd17d7dd11f8b3719448e7ea3cf2"), looks := false }, kinds := [], alts := [], laidByText := true, laidKinds := [.data, .data], laidTests := true, laidLooks := .later }
def HeadMarksCardSaid : Prop := Claim7.holds Tryd.pinned (.plain (OpenSpec.ofChange headMarksSpec)) headMarksCard

/-- THE TIED CARD OF 'splittallylaw8.HeadCoins'. -/
def headCoinsCard : Claim7 := { stood := { row := headCoinsRow, standIns := [], harness := (true, "82c1dd0bc4a5d0368e4cdb54e1d26816b9ccbd17d7dd11f8b3719448e7ea3cf2"), looks := false }, kinds := [], alts := [], laidByText := true, laidKinds := [.data, .data], laidTests := true, laidLooks := .later }
def HeadCoinsCardSaid : Prop := Claim7.holds Tryd.pinned (.plain (OpenSpec.ofChange headCoinsSpec)) headCoinsCard

/-- THE SECOND FORM's CARD OF 'splittallylaw8.HeadEncodes'. -/
def headEncodesUptoCard : Claim7 := { stood := { row := headEncodesUptoRow, standIns := [], harness := (true, "82c1dd0bc4a5d0368e4cdb54e1d26816b9ccbd17d7dd11f8b3719448e7ea3cf2"), looks := false }, kinds := [], alts := [], laidByText := true, laidKinds := [.data, .data], laidTests := true, laidLooks := .later }
def HeadEncodesUptoCardSaid : Prop := Claim7.holds Tryd.pinned (.plain (OpenSpec.upto headEncodesSpec)) headEncodesUptoCard

/-- THE SECOND FORM's CARD OF 'splittallylaw8.HeadDecodes'. -/
def headDecodesUptoCard : Claim7 := { stood := { row := headDecodesUptoRow, standIns := [], harness := (true, "82c1dd0bc4a5d0368e4cdb54e1d26816b9ccbd17d7dd11f8b3719448e7ea3cf2"), looks := false }, kinds := [], alts := [], laidByText := true, laidKinds := [.data, .data], laidTests := true, laidLooks := .later }
def HeadDecodesUptoCardSaid : Prop := Claim7.holds Tryd.pinned (.plain (OpenSpec.upto headDecodesSpec)) headDecodesUptoCard

/-- THE SECOND FORM's CARD OF 'splittallylaw8.HeadBack'. -/
def headBackUptoCard : Claim7 := { stood := { row := headBackUptoRow, standIns := [], harness := (true, "82c1dd0bc4a5d0368e4cdb54e1d26816b9ccbd17d7dd11f8b3719448e7ea3cf2"), looks := false }, kinds := [], alts := [], laidByText := true, laidKinds := [.data, .data], laidTests := true, laidLooks := .later }
def HeadBackUptoCardSaid : Prop := Claim7.holds Tryd.pinned (.plain (OpenSpec.upto headBackSpec)) headBackUptoCard

/-- THE SECOND FORM's CARD OF 'splittallylaw8.HeadOne'. -/
def headOneUptoCard : Claim7 := { stood := { row := headOneUptoRow, standIns := [], harness := (true, "82c1dd0bc4a5d0368e4cdb54e1d26816b9ccbd17d7dd11f8b3719448e7ea3cf2"), looks := false }, kinds := [], alts := [], laidByText := true, laidKinds := [.data, .data], laidTests := true, laidLooks := .later }
def HeadOneUptoCardSaid : Prop := Claim7.holds Tryd.pinned (.plain (OpenSpec.upto headOneSpec)) headOneUptoCard

/-- THE SECOND FORM's CARD OF 'splittallylaw8.HeadMarks'. -/
def headMarksUptoCard : Claim7 := { stood := { row := headMarksUptoRow, standIns := [], harness := (true, "82c1dd0bc4a5d0368e4cdb54e1d26816b9ccbd17d7dd11f8b3719448e7ea3cf2"), looks := false }, kinds := [], alts := [], laidByText := true, laidKinds := [.data, .data], laidTests := true, laidLooks := .later }
def HeadMarksUptoCardSaid : Prop := Claim7.holds Tryd.pinned (.plain (OpenSpec.upto headMarksSpec)) headMarksUptoCard

/-- THE SECOND FORM's CARD OF 'splittallylaw8.HeadCoins'. -/
def headCoinsUptoCard : Claim7 := { stood := { row := headCoinsUptoRow, standIns := [], harness := (true, "82c1dd0bc4a5d0368e4cdb54e1d26816b9ccbd17d7dd11f8b3719448e7ea3cf2"), looks := false }, kinds := [], alts := [], laidByText := true, laidKinds := [.data, .data], laidTests := true, laidLooks := .later }
def HeadCoinsUptoCardSaid : Prop := Claim7.holds Tryd.pinned (.plain (OpenSpec.upto headCoinsSpec)) headCoinsUptoCard
end Rows
end Go.Proofs.YtbdafmomjboaaaaDoor
