/-
  DERIVED. GIVEN WITH THE SEED: THE CARDS: each row of YtppcnlkhdgmaiaaDoorRows.lean that lists a variable, with what it lists TIED to the program's text (the seventh form; the later family's looks); each row that meets fmt, with fmt's text TOLD by the authors' own Lean function (tested against real Go, not proved from fmt's source: count such statements apart). THE CARD IS WHAT COUNTS. Prove the row's statement (the work); the ties are given (YtppcnlkhdgmaiaaDoorTie.lean); close each card by the builder's one call (the guide's Derived/Test/ToyasCard.lean, 'card_holds'). Laid BY PROGRAM, IN A SANDBOX (cutbox-door.mjs). By AI agents, Wed Nov 11 2026. No macro, syntax, notation, axiom, sorry.
-/
import Derived.Test.YtppcnlkhdgmaiaaDoorRows
import GoSem.ClaimSeven
namespace Go.Proofs.YtppcnlkhdgmaiaaDoor
namespace Rows

/-- THE TIED CARD OF 'hatchkeep.Kept'. -/
def keptCard : Claim7 := { stood := { row := keptRow, standIns := [], harness := (true, "c7b4c95c557ffc7b804a5a487203922e9fd32855ebc6195346a64a6891de25fb"), looks := false }, kinds := [], alts := [], laidByText := true, laidKinds := [.data, .data, .data, .data], laidTests := true, laidLooks := .later }
def KeptCardSaid : Prop := Claim7.holds Tryd.pinned (.plain (OpenSpec.ofChange keptSpec)) keptCard

/-- THE TIED CARD OF 'hatchkeep.First'. -/
def firstCard : Claim7 := { stood := { row := firstRow, standIns := [], harness := (true, "c7b4c95c557ffc7b804a5a487203922e9fd32855ebc6195346a64a6891de25fb"), looks := false }, kinds := [], alts := [], laidByText := true, laidKinds := [.data, .data, .data, .data], laidTests := true, laidLooks := .later }
def FirstCardSaid : Prop := Claim7.holds Tryd.pinned (.plain (OpenSpec.ofChange firstSpec)) firstCard

/-- THE TIED CARD OF 'hatchkeep.Best'. -/
def bestCard : Claim7 := { stood := { row := bestRow, standIns := [], harness := (true, "c7b4c95c557ffc7b804a5a487203922e9fd32855ebc6195346a64a6891de25fb"), looks := false }, kinds := [], alts := [], laidByText := true, laidKinds := [.data, .data, .data, .data], laidTests := true, laidLooks := .later }
def BestCardSaid : Prop := Claim7.holds Tryd.pinned (.plain (OpenSpec.ofChange bestSpec)) bestCard

/-- THE TIED CARD OF 'hatchkeep.Patient'. -/
def patientCard : Claim7 := { stood := { row := patientRow, standIns := [], harness := (true, "c7b4c95c557ffc7b804a5a487203922e9fd32855ebc6195346a64a6891de25fb"), looks := false }, kinds := [], alts := [], laidByText := true, laidKinds := [.data, .data, .data, .data], laidTests := true, laidLooks := .later }
def PatientCardSaid : Prop := Claim7.holds Tryd.pinned (.plain (OpenSpec.ofChange patientSpec)) patientCard

/-- THE TIED CARD OF 'hatchkeep.Completes'. -/
def completesCard : Claim7 := { stood := { row := completesRow, standIns := [], harness := (true, "c7b4c95c557ffc7b804a5a487203922e9fd32855ebc6195346a64a6891de25fb"), looks := false }, kinds := [], alts := [], laidByText := true, laidKinds := [.data, .data, .data, .data, .data], laidTests := true, laidLooks := .later }
def CompletesCardSaid : Prop := Claim7.holds Tryd.pinned (.plain (OpenSpec.ofChange completesSpec)) completesCard

/-- THE TIED CARD OF 'hatchkeep.Safe'. -/
def safeCard : Claim7 := { stood := { row := safeRow, standIns := [], harness := (true, "c7b4c95c557ffc7b804a5a487203922e9fd32855ebc6195346a64a6891de25fb"), looks := false }, kinds := [], alts := [], laidByText := true, laidKinds := [.data, .data, .data, .data, .data], laidTests := true, laidLooks := .later }
def SafeCardSaid : Prop := Claim7.holds Tryd.pinned (.plain (OpenSpec.ofChange safeSpec)) safeCard

/-- THE TIED CARD OF 'hatchkeep.Onward'. -/
def onwardCard : Claim7 := { stood := { row := onwardRow, standIns := [], harness := (true, "c7b4c95c557ffc7b804a5a487203922e9fd32855ebc6195346a64a6891de25fb"), looks := false }, kinds := [], alts := [], laidByText := true, laidKinds := [.data, .data, .data, .data, .data], laidTests := true, laidLooks := .later }
def OnwardCardSaid : Prop := Claim7.holds Tryd.pinned (.plain (OpenSpec.ofChange onwardSpec)) onwardCard

/-- THE TIED CARD OF 'hatchkeep.Agree'. -/
def agreeCard : Claim7 := { stood := { row := agreeRow, standIns := [], harness := (true, "c7b4c95c557ffc7b804a5a487203922e9fd32855ebc6195346a64a6891de25fb"), looks := false }, kinds := [], alts := [], laidByText := true, laidKinds := [.data, .data, .data, .data, .data], laidTests := true, laidLooks := .later }
def AgreeCardSaid : Prop := Claim7.holds Tryd.pinned (.plain (OpenSpec.ofChange agreeSpec)) agreeCard

/-- THE SECOND FORM's CARD OF 'hatchkeep.Kept'. -/
def keptUptoCard : Claim7 := { stood := { row := keptUptoRow, standIns := [], harness := (true, "c7b4c95c557ffc7b804a5a487203922e9fd32855ebc6195346a64a6891de25fb"), looks := false }, kinds := [], alts := [], laidByText := true, laidKinds := [.data, .data, .data, .data], laidTests := true, laidLooks := .later }
def KeptUptoCardSaid : Prop := Claim7.holds Tryd.pinned (.plain (OpenSpec.upto keptSpec)) keptUptoCard

/-- THE SECOND FORM's CARD OF 'hatchkeep.First'. -/
def firstUptoCard : Claim7 := { stood := { row := firstUptoRow, standIns := [], harness := (true, "c7b4c95c557ffc7b804a5a487203922e9fd32855ebc6195346a64a6891de25fb"), looks := false }, kinds := [], alts := [], laidByText := true, laidKinds := [.data, .data, .data, .data], laidTests := true, laidLooks := .later }
def FirstUptoCardSaid : Prop := Claim7.holds Tryd.pinned (.plain (OpenSpec.upto firstSpec)) firstUptoCard

/-- THE SECOND FORM's CARD OF 'hatchkeep.Best'. -/
def bestUptoCard : Claim7 := { stood := { row := bestUptoRow, standIns := [], harness := (true, "c7b4c95c557ffc7b804a5a487203922e9fd32855ebc6195346a64a6891de25fb"), looks := false }, kinds := [], alts := [], laidByText := true, laidKinds := [.data, .data, .data, .data], laidTests := true, laidLooks := .later }
def BestUptoCardSaid : Prop := Claim7.holds Tryd.pinned (.plain (OpenSpec.upto bestSpec)) bestUptoCard

/-- THE SECOND FORM's CARD OF 'hatchkeep.Patient'. -/
def patientUptoCard : Claim7 := { stood := { row := patientUptoRow, standIns := [], harness := (true, "c7b4c95c557ffc7b804a5a487203922e9fd32855ebc6195346a64a6891de25fb"), looks := false }, kinds := [], alts := [], laidByText := true, laidKinds := [.data, .data, .data, .data], laidTests := true, laidLooks := .later }
def PatientUptoCardSaid : Prop := Claim7.holds Tryd.pinned (.plain (OpenSpec.upto patientSpec)) patientUptoCard

/-- THE SECOND FORM's CARD OF 'hatchkeep.Completes'. -/
def completesUptoCard : Claim7 := { stood := { row := completesUptoRow, standIns := [], harness := (true, "c7b4c95c557ffc7b804a5a487203922e9fd32855ebc6195346a64a6891de25fb"), looks := false }, kinds := [], alts := [], laidByText := true, laidKinds := [.data, .data, .data, .data, .data], laidTests := true, laidLooks := .later }
def CompletesUptoCardSaid : Prop := Claim7.holds Tryd.pinned (.plain (OpenSpec.upto completesSpec)) completesUptoCard

/-- THE SECOND FORM's CARD OF 'hatchkeep.Safe'. -/
def safeUptoCard : Claim7 := { stood := { row := safeUptoRow, standIns := [], harness := (true, "c7b4c95c557ffc7b804a5a487203922e9fd32855ebc6195346a64a6891de25fb"), looks := false }, kinds := [], alts := [], laidByText := true, laidKinds := [.data, .data, .data, .data, .data], laidTests := true, laidLooks := .later }
def SafeUptoCardSaid : Prop := Claim7.holds Tryd.pinned (.plain (OpenSpec.upto safeSpec)) safeUptoCard

/-- THE SECOND FORM's CARD OF 'hatchkeep.Onward'. -/
def onwardUptoCard : Claim7 := { stood := { row := onwardUptoRow, standIns := [], harness := (true, "c7b4c95c557ffc7b804a5a487203922e9fd32855ebc6195346a64a6891de25fb"), looks := false }, kinds := [], alts := [], laidByText := true, laidKinds := [.data, .data, .data, .data, .data], laidTests := true, laidLooks := .later }
def OnwardUptoCardSaid : Prop := Claim7.holds Tryd.pinned (.plain (OpenSpec.upto onwardSpec)) onwardUptoCard

/-- THE SECOND FORM's CARD OF 'hatchkeep.Agree'. -/
def agreeUptoCard : Claim7 := { stood := { row := agreeUptoRow, standIns := [], harness := (true, "c7b4c95c557ffc7b804a5a487203922e9fd32855ebc6195346a64a6891de25fb"), looks := false }, kinds := [], alts := [], laidByText := true, laidKinds := [.data, .data, .data, .data, .data], laidTests := true, laidLooks := .later }
def AgreeUptoCardSaid : Prop := Claim7.holds Tryd.pinned (.plain (OpenSpec.upto agreeSpec)) agreeUptoCard
end Rows
end Go.Proofs.YtppcnlkhdgmaiaaDoor
