/-
  DERIVED. GIVEN WITH THE SEED: THE CARDS: each row of YtppcnlkhdgmaiaaGreatDoorRows.lean that lists a variable, with what it lists TIED to the program's text (the seventh form; the later family's looks); each row that meets fmt, with fmt's text TOLD by the authors' own Lean function (tested against real Go, not proved from fmt's source: count such statements apart). THE CARD IS WHAT COUNTS. Prove the row's statement (the work); the ties are given (YtppcnlkhdgmaiaaGreatDoorTie.lean); close each card by the builder's one call (the guide's Derived/Test/ToyasCard.lean, 'card_holds'). Laid BY PROGRAM, IN A SANDBOX (cutbox-door.mjs). By AI agents, Wed Nov 11 2026. No macro, syntax, notation, axiom, sorry.
-/
import Derived.Test.YtppcnlkhdgmaiaaGreatDoorRows
import GoSem.ClaimSeven
namespace Go.Proofs.YtppcnlkhdgmaiaaGreatDoor
namespace Rows

/-- THE TIED CARD OF 'hatchlaw.Checks'. -/
def checksCard : Claim7 := { stood := { row := checksRow, standIns := [], harness := (true, "cf083c5e1f2fb3e19512e730d0a3ee40a85465668e1814cf9f509e39fe1a7ef6"), looks := false }, kinds := [], alts := [], laidByText := true, laidKinds := [.data, .data, .data, .data, .data], laidTests := true, laidLooks := .later }
def ChecksCardSaid : Prop := Claim7.holds Tryz.pinned (.plain (OpenSpec.ofChange checksSpec)) checksCard

/-- THE TIED CARD OF 'hatchlaw.Plans'. -/
def plansCard : Claim7 := { stood := { row := plansRow, standIns := [], harness := (true, "cf083c5e1f2fb3e19512e730d0a3ee40a85465668e1814cf9f509e39fe1a7ef6"), looks := false }, kinds := [], alts := [], laidByText := true, laidKinds := [.data, .data, .data, .data, .data], laidTests := true, laidLooks := .later }
def PlansCardSaid : Prop := Claim7.holds Tryz.pinned (.plain (OpenSpec.ofChange plansSpec)) plansCard

/-- THE TIED CARD OF 'hatchlaw.Looks'. -/
def looksCard : Claim7 := { stood := { row := looksRow, standIns := [], harness := (true, "cf083c5e1f2fb3e19512e730d0a3ee40a85465668e1814cf9f509e39fe1a7ef6"), looks := false }, kinds := [], alts := [], laidByText := true, laidKinds := [.data, .data, .data, .data, .data], laidTests := true, laidLooks := .later }
def LooksCardSaid : Prop := Claim7.holds Tryz.pinned (.plain (OpenSpec.ofChange looksSpec)) looksCard

/-- THE TIED CARD OF 'hatchlaw.Runs'. -/
def runsCard : Claim7 := { stood := { row := runsRow, standIns := [], harness := (true, "cf083c5e1f2fb3e19512e730d0a3ee40a85465668e1814cf9f509e39fe1a7ef6"), looks := false }, kinds := [], alts := [], laidByText := true, laidKinds := [.data, .data, .data, .data, .data], laidTests := true, laidLooks := .later }
def RunsCardSaid : Prop := Claim7.holds Tryz.pinned (.plain (OpenSpec.ofChange runsSpec)) runsCard

/-- THE SECOND FORM's CARD OF 'hatchlaw.Checks'. -/
def checksUptoCard : Claim7 := { stood := { row := checksUptoRow, standIns := [], harness := (true, "cf083c5e1f2fb3e19512e730d0a3ee40a85465668e1814cf9f509e39fe1a7ef6"), looks := false }, kinds := [], alts := [], laidByText := true, laidKinds := [.data, .data, .data, .data, .data], laidTests := true, laidLooks := .later }
def ChecksUptoCardSaid : Prop := Claim7.holds Tryz.pinned (.plain (OpenSpec.upto checksSpec)) checksUptoCard

/-- THE SECOND FORM's CARD OF 'hatchlaw.Plans'. -/
def plansUptoCard : Claim7 := { stood := { row := plansUptoRow, standIns := [], harness := (true, "cf083c5e1f2fb3e19512e730d0a3ee40a85465668e1814cf9f509e39fe1a7ef6"), looks := false }, kinds := [], alts := [], laidByText := true, laidKinds := [.data, .data, .data, .data, .data], laidTests := true, laidLooks := .later }
def PlansUptoCardSaid : Prop := Claim7.holds Tryz.pinned (.plain (OpenSpec.upto plansSpec)) plansUptoCard

/-- THE SECOND FORM's CARD OF 'hatchlaw.Looks'. -/
def looksUptoCard : Claim7 := { stood := { row := looksUptoRow, standIns := [], harness := (true, "cf083c5e1f2fb3e19512e730d0a3ee40a85465668e1814cf9f509e39fe1a7ef6"), looks := false }, kinds := [], alts := [], laidByText := true, laidKinds := [.data, .data, .data, .data, .data], laidTests := true, laidLooks := .later }
def LooksUptoCardSaid : Prop := Claim7.holds Tryz.pinned (.plain (OpenSpec.upto looksSpec)) looksUptoCard

/-- THE SECOND FORM's CARD OF 'hatchlaw.Runs'. -/
def runsUptoCard : Claim7 := { stood := { row := runsUptoRow, standIns := [], harness := (true, "cf083c5e1f2fb3e19512e730d0a3ee40a85465668e1814cf9f509e39fe1a7ef6"), looks := false }, kinds := [], alts := [], laidByText := true, laidKinds := [.data, .data, .data, .data, .data], laidTests := true, laidLooks := .later }
def RunsUptoCardSaid : Prop := Claim7.holds Tryz.pinned (.plain (OpenSpec.upto runsSpec)) runsUptoCard
end Rows
end Go.Proofs.YtppcnlkhdgmaiaaGreatDoor
