/-
  DERIVED. GIVEN WITH THE SEED: THE CARDS: each row of YtbhpihaccbnnlaaDoorRows.lean that lists a variable, with what it lists TIED to the program's text (the seventh form; the later family's looks); each row that meets fmt, with fmt's text TOLD by the authors' own Lean function (tested against real Go, not proved from fmt's source: count such statements apart). THE CARD IS WHAT COUNTS. Prove the row's statement (the work); the ties are given (YtbhpihaccbnnlaaDoorTie.lean); close each card by the builder's one call (the guide's Derived/Test/ToyasCard.lean, 'card_holds'). Laid BY PROGRAM, IN A SANDBOX (cutbox-door.mjs). By AI agents, Wed Nov 11 2026. No macro, syntax, notation, axiom, sorry.
-/
import Derived.Test.YtbhpihaccbnnlaaDoorRows
import GoSem.ClaimSeven
namespace Go.Proofs.YtbhpihaccbnnlaaDoor
namespace Rows

/-- THE TIED CARD OF 'hatchlaw.Checks'. -/
def checksCard : Claim7 := { stood := { row := checksRow, standIns := [], harness := (true, "d2f837388332244cf3f4b0a6443189a047d73176424fe1e47f6db68ce559aa81"), looks := false }, kinds := [], alts := [], laidByText := true, laidKinds := [.data, .data, .data, .data], laidTests := true, laidLooks := .later }
def ChecksCardSaid : Prop := Claim7.holds Tryd.pinned (.plain (OpenSpec.ofChange checksSpec)) checksCard

/-- THE TIED CARD OF 'hatchlaw.Plans'. -/
def plansCard : Claim7 := { stood := { row := plansRow, standIns := [], harness := (true, "d2f837388332244cf3f4b0a6443189a047d73176424fe1e47f6db68ce559aa81"), looks := false }, kinds := [], alts := [], laidByText := true, laidKinds := [.data, .data, .data, .data], laidTests := true, laidLooks := .later }
def PlansCardSaid : Prop := Claim7.holds Tryd.pinned (.plain (OpenSpec.ofChange plansSpec)) plansCard

/-- THE TIED CARD OF 'hatchkeep.Kept'. -/
def keptCard : Claim7 := { stood := { row := keptRow, standIns := [], harness := (true, "d2f837388332244cf3f4b0a6443189a047d73176424fe1e47f6db68ce559aa81"), looks := false }, kinds := [], alts := [], laidByText := true, laidKinds := [.data, .data, .data, .data], laidTests := true, laidLooks := .later }
def KeptCardSaid : Prop := Claim7.holds Tryd.pinned (.plain (OpenSpec.ofChange keptSpec)) keptCard

/-- THE TIED CARD OF 'hatchkeep.First'. -/
def firstCard : Claim7 := { stood := { row := firstRow, standIns := [], harness := (true, "d2f837388332244cf3f4b0a6443189a047d73176424fe1e47f6db68ce559aa81"), looks := false }, kinds := [], alts := [], laidByText := true, laidKinds := [.data, .data, .data, .data], laidTests := true, laidLooks := .later }
def FirstCardSaid : Prop := Claim7.holds Tryd.pinned (.plain (OpenSpec.ofChange firstSpec)) firstCard

/-- THE TIED CARD OF 'hatchkeep.Best'. -/
def bestCard : Claim7 := { stood := { row := bestRow, standIns := [], harness := (true, "d2f837388332244cf3f4b0a6443189a047d73176424fe1e47f6db68ce559aa81"), looks := false }, kinds := [], alts := [], laidByText := true, laidKinds := [.data, .data, .data, .data], laidTests := true, laidLooks := .later }
def BestCardSaid : Prop := Claim7.holds Tryd.pinned (.plain (OpenSpec.ofChange bestSpec)) bestCard

/-- THE TIED CARD OF 'hatchkeep.Patient'. -/
def patientCard : Claim7 := { stood := { row := patientRow, standIns := [], harness := (true, "d2f837388332244cf3f4b0a6443189a047d73176424fe1e47f6db68ce559aa81"), looks := false }, kinds := [], alts := [], laidByText := true, laidKinds := [.data, .data, .data, .data], laidTests := true, laidLooks := .later }
def PatientCardSaid : Prop := Claim7.holds Tryd.pinned (.plain (OpenSpec.ofChange patientSpec)) patientCard

/-- THE SECOND FORM's CARD OF 'hatchlaw.Checks'. -/
def checksUptoCard : Claim7 := { stood := { row := checksUptoRow, standIns := [], harness := (true, "d2f837388332244cf3f4b0a6443189a047d73176424fe1e47f6db68ce559aa81"), looks := false }, kinds := [], alts := [], laidByText := true, laidKinds := [.data, .data, .data, .data], laidTests := true, laidLooks := .later }
def ChecksUptoCardSaid : Prop := Claim7.holds Tryd.pinned (.plain (OpenSpec.upto checksSpec)) checksUptoCard

/-- THE SECOND FORM's CARD OF 'hatchlaw.Plans'. -/
def plansUptoCard : Claim7 := { stood := { row := plansUptoRow, standIns := [], harness := (true, "d2f837388332244cf3f4b0a6443189a047d73176424fe1e47f6db68ce559aa81"), looks := false }, kinds := [], alts := [], laidByText := true, laidKinds := [.data, .data, .data, .data], laidTests := true, laidLooks := .later }
def PlansUptoCardSaid : Prop := Claim7.holds Tryd.pinned (.plain (OpenSpec.upto plansSpec)) plansUptoCard

/-- THE SECOND FORM's CARD OF 'hatchkeep.Kept'. -/
def keptUptoCard : Claim7 := { stood := { row := keptUptoRow, standIns := [], harness := (true, "d2f837388332244cf3f4b0a6443189a047d73176424fe1e47f6db68ce559aa81"), looks := false }, kinds := [], alts := [], laidByText := true, laidKinds := [.data, .data, .data, .data], laidTests := true, laidLooks := .later }
def KeptUptoCardSaid : Prop := Claim7.holds Tryd.pinned (.plain (OpenSpec.upto keptSpec)) keptUptoCard

/-- THE SECOND FORM's CARD OF 'hatchkeep.First'. -/
def firstUptoCard : Claim7 := { stood := { row := firstUptoRow, standIns := [], harness := (true, "d2f837388332244cf3f4b0a6443189a047d73176424fe1e47f6db68ce559aa81"), looks := false }, kinds := [], alts := [], laidByText := true, laidKinds := [.data, .data, .data, .data], laidTests := true, laidLooks := .later }
def FirstUptoCardSaid : Prop := Claim7.holds Tryd.pinned (.plain (OpenSpec.upto firstSpec)) firstUptoCard

/-- THE SECOND FORM's CARD OF 'hatchkeep.Best'. -/
def bestUptoCard : Claim7 := { stood := { row := bestUptoRow, standIns := [], harness := (true, "d2f837388332244cf3f4b0a6443189a047d73176424fe1e47f6db68ce559aa81"), looks := false }, kinds := [], alts := [], laidByText := true, laidKinds := [.data, .data, .data, .data], laidTests := true, laidLooks := .later }
def BestUptoCardSaid : Prop := Claim7.holds Tryd.pinned (.plain (OpenSpec.upto bestSpec)) bestUptoCard

/-- THE SECOND FORM's CARD OF 'hatchkeep.Patient'. -/
def patientUptoCard : Claim7 := { stood := { row := patientUptoRow, standIns := [], harness := (true, "d2f837388332244cf3f4b0a6443189a047d73176424fe1e47f6db68ce559aa81"), looks := false }, kinds := [], alts := [], laidByText := true, laidKinds := [.data, .data, .data, .data], laidTests := true, laidLooks := .later }
def PatientUptoCardSaid : Prop := Claim7.holds Tryd.pinned (.plain (OpenSpec.upto patientSpec)) patientUptoCard
end Rows
end Go.Proofs.YtbhpihaccbnnlaaDoor
