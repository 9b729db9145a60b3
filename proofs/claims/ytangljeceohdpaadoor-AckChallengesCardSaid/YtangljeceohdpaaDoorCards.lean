/-
  DERIVED. GIVEN WITH THE SEED: THE CARDS: each row of YtangljeceohdpaaDoorRows.lean that lists a variable, with what it lists TIED to the program's text (the seventh form; the later family's looks); each row that meets fmt, with fmt's text TOLD by the authors' own Lean function (tested against real Go, not proved from fmt's source: count such statements apart). THE CARD IS WHAT COUNTS. Prove the row's statement (the work); the ties are given (YtangljeceohdpaaDoorTie.lean); close each card by the builder's one call (the guide's Derived/Test/ToyasCard.lean, 'card_holds'). Laid BY PROGRAM, IN A SANDBOX (cutbox-door.mjs). By AI agents, Wed Nov 11 2026. No macro, syntax, notation, axiom, sorry.
-/
import Derived.Test.YtangljeceohdpaaDoorRows
import GoSem.ClaimSeven
namespace Go.Proofs.YtangljeceohdpaaDoor
namespace Rows

/-- THE TIED CARD OF 'splittallylaw9.AckEncodes'. -/
def ackEncodesCard : Claim7 := { stood := { row := ackEncodesRow, standIns := [], harness := (true, "3029f8fbe8449d87556f27ae5c2055b3a3d564e05ae1a39ffa06a42cecf980f6"), looks := false }, kinds := [], alts := [], laidByText := true, laidKinds := [.data, .data], laidTests := true, laidLooks := .later }
def AckEncodesCardSaid : Prop := Claim7.holds Tryd.pinned (.plain (OpenSpec.ofChange ackEncodesSpec)) ackEncodesCard

/-- THE TIED CARD OF 'splittallylaw9.AckDecodes'. -/
def ackDecodesCard : Claim7 := { stood := { row := ackDecodesRow, standIns := [], harness := (true, "3029f8fbe8449d87556f27ae5c2055b3a3d564e05ae1a39ffa06a42cecf980f6"), looks := false }, kinds := [], alts := [], laidByText := true, laidKinds := [.data, .data], laidTests := true, laidLooks := .later }
def AckDecodesCardSaid : Prop := Claim7.holds Tryd.pinned (.plain (OpenSpec.ofChange ackDecodesSpec)) ackDecodesCard

/-- THE TIED CARD OF 'splittallylaw9.AckBack'. -/
def ackBackCard : Claim7 := { stood := { row := ackBackRow, standIns := [], harness := (true, "3029f8fbe8449d87556f27ae5c2055b3a3d564e05ae1a39ffa06a42cecf980f6"), looks := false }, kinds := [], alts := [], laidByText := true, laidKinds := [.data, .data], laidTests := true, laidLooks := .later }
def AckBackCardSaid : Prop := Claim7.holds Tryd.pinned (.plain (OpenSpec.ofChange ackBackSpec)) ackBackCard

/-- THE TIED CARD OF 'splittallylaw9.AckOne'. -/
def ackOneCard : Claim7 := { stood := { row := ackOneRow, standIns := [], harness := (true, "3029f8fbe8449d87556f27ae5c2055b3a3d564e05ae1a39ffa06a42cecf980f6"), looks := false }, kinds := [], alts := [], laidByText := true, laidKinds := [.data, .data], laidTests := true, laidLooks := .later }
def AckOneCardSaid : Prop := Claim7.holds Tryd.pinned (.plain (OpenSpec.ofChange ackOneSpec)) ackOneCard

/-- THE TIED CARD OF 'splittallylaw9.AckChallenges'. -/
def ackChallengesCard : Claim7 := { stood := { row := ackChallengesRow, standIns := [], harness := (true, "3029f8fbe8449d87556f27ae5c2055b3a3d564e05ae1a39ffa06a42cecf980f6"), looks := false }, kinds := [], alts := [], laidByText := true, laidKinds := [.data, .data], laidTests := true, laidLooks := .later }
def AckChallengesCardSaid : Prop := Claim7.holds Tryd.pinned (.plain (OpenSpec.ofChange ackChallengesSpec)) ackChallengesCard

/-- THE SECOND FORM's CARD OF 'splittallylaw9.AckEncodes'. -/
def ackEncodesUptoCard : Claim7 := { stood := { row := ackEncodesUptoRow, standIns := [], harness := (true, "3029f8fbe8449d87556f27ae5c2055b3a3d564e05ae1a39ffa06a42cecf980f6"), looks := false }, kinds := [], alts := [], laidByText := true, laidKinds := [.data, .data], laidTests := true, laidLooks := .later }
def AckEncodesUptoCardSaid : Prop := Claim7.holds Tryd.pinned (.plain (OpenSpec.upto ackEncodesSpec)) ackEncodesUptoCard

/-- THE SECOND FORM's CARD OF 'splittallylaw9.AckDecodes'. -/
def ackDecodesUptoCard : Claim7 := { stood := { row := ackDecodesUptoRow, standIns := [], harness := (true, "3029f8fbe8449d87556f27ae5c2055b3a3d564e05ae1a39ffa06a42cecf980f6"), looks := false }, kinds := [], alts := [], laidByText := true, laidKinds := [.data, .data], laidTests := true, laidLooks := .later }
def AckDecodesUptoCardSaid : Prop := Claim7.holds Tryd.pinned (.plain (OpenSpec.upto ackDecodesSpec)) ackDecodesUptoCard

/-- THE SECOND FORM's CARD OF 'splittallylaw9.AckBack'. -/
def ackBackUptoCard : Claim7 := { stood := { row := ackBackUptoRow, standIns := [], harness := (true, "3029f8fbe8449d87556f27ae5c2055b3a3d564e05ae1a39ffa06a42cecf980f6"), looks := false }, kinds := [], alts := [], laidByText := true, laidKinds := [.data, .data], laidTests := true, laidLooks := .later }
def AckBackUptoCardSaid : Prop := Claim7.holds Tryd.pinned (.plain (OpenSpec.upto ackBackSpec)) ackBackUptoCard

/-- THE SECOND FORM's CARD OF 'splittallylaw9.AckOne'. -/
def ackOneUptoCard : Claim7 := { stood := { row := ackOneUptoRow, standIns := [], harness := (true, "3029f8fbe8449d87556f27ae5c2055b3a3d564e05ae1a39ffa06a42cecf980f6"), looks := false }, kinds := [], alts := [], laidByText := true, laidKinds := [.data, .data], laidTests := true, laidLooks := .later }
def AckOneUptoCardSaid : Prop := Claim7.holds Tryd.pinned (.plain (OpenSpec.upto ackOneSpec)) ackOneUptoCard

/-- THE SECOND FORM's CARD OF 'splittallylaw9.AckChallenges'. -/
def ackChallengesUptoCard : Claim7 := { stood := { row := ackChallengesUptoRow, standIns := [], harness := (true, "3029f8fbe8449d87556f27ae5c2055b3a3d564e05ae1a39ffa06a42cecf980f6"), looks := false }, kinds := [], alts := [], laidByText := true, laidKinds := [.data, .data], laidTests := true, laidLooks := .later }
def AckChallengesUptoCardSaid : Prop := Claim7.holds Tryd.pinned (.plain (OpenSpec.upto ackChallengesSpec)) ackChallengesUptoCard
end Rows
end Go.Proofs.YtangljeceohdpaaDoor
