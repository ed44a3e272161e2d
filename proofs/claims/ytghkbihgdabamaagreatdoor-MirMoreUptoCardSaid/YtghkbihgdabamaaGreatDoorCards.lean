/-
  DERIVED. GIVEN WITH THE SEED: THE CARDS: each row of YtghkbihgdabamaaGreatDoorRows.lean that lists a variable, with what it lists TIED to the program's text (the seventh form; the later family's looks); each row that meets fmt, with fmt's text TOLD by the authors' own Lean function (tested against real Go, not proved from fmt's source: count such statements apart). THE CARD IS WHAT COUNTS. Prove the row's statement (the work); the ties are given (YtghkbihgdabamaaGreatDoorTie.lean); close each card by the builder's one call (the guide's Derived/Test/ToyasCard.lean, 'card_holds'). Laid BY PROGRAM, IN A SANDBOX (cutbox-door.mjs). By AI agents, Wed Nov 11 2026. No macro, syntax, notation, axiom, sorry.
-/
import Derived.Test.YtghkbihgdabamaaGreatDoorRows
import GoSem.ClaimSeven
namespace Go.Proofs.YtghkbihgdabamaaGreatDoor
namespace Rows

/-- THE TIED CARD OF 'cocoonlaw09.MirTypes'. -/
def mirTypesCard : Claim7 := { stood := { row := mirTypesRow, standIns := [], harness := (true, "8d086e20bc4d5c08ca185c7fc0358fb96cd0604584db6947723f0ce29d63ce28"), looks := false }, kinds := [], alts := [], laidByText := true, laidKinds := [.data, .data, .data], laidTests := true, laidLooks := .later }
def MirTypesCardSaid : Prop := Claim7.holds Tryz.pinned (.plain (OpenSpec.ofChange mirTypesSpec)) mirTypesCard

/-- THE TIED CARD OF 'cocoonlaw09.MirValid'. -/
def mirValidCard : Claim7 := { stood := { row := mirValidRow, standIns := [], harness := (true, "8d086e20bc4d5c08ca185c7fc0358fb96cd0604584db6947723f0ce29d63ce28"), looks := false }, kinds := [], alts := [], laidByText := true, laidKinds := [.data, .data, .data], laidTests := true, laidLooks := .later }
def MirValidCardSaid : Prop := Claim7.holds Tryz.pinned (.plain (OpenSpec.ofChange mirValidSpec)) mirValidCard

/-- THE TIED CARD OF 'cocoonlaw09.MirMore'. -/
def mirMoreCard : Claim7 := { stood := { row := mirMoreRow, standIns := [], harness := (true, "8d086e20bc4d5c08ca185c7fc0358fb96cd0604584db6947723f0ce29d63ce28"), looks := false }, kinds := [], alts := [], laidByText := true, laidKinds := [.data, .data, .data], laidTests := true, laidLooks := .later }
def MirMoreCardSaid : Prop := Claim7.holds Tryz.pinned (.plain (OpenSpec.ofChange mirMoreSpec)) mirMoreCard

/-- THE TIED CARD OF 'cocoonlaw09.MirUses'. -/
def mirUsesCard : Claim7 := { stood := { row := mirUsesRow, standIns := [], harness := (true, "8d086e20bc4d5c08ca185c7fc0358fb96cd0604584db6947723f0ce29d63ce28"), looks := false }, kinds := [], alts := [], laidByText := true, laidKinds := [.data, .data, .data], laidTests := true, laidLooks := .later }
def MirUsesCardSaid : Prop := Claim7.holds Tryz.pinned (.plain (OpenSpec.ofChange mirUsesSpec)) mirUsesCard

/-- THE TIED CARD OF 'cocoonlaw09.MirSteps'. -/
def mirStepsCard : Claim7 := { stood := { row := mirStepsRow, standIns := [], harness := (true, "8d086e20bc4d5c08ca185c7fc0358fb96cd0604584db6947723f0ce29d63ce28"), looks := false }, kinds := [], alts := [], laidByText := true, laidKinds := [.data, .data, .data], laidTests := true, laidLooks := .later }
def MirStepsCardSaid : Prop := Claim7.holds Tryz.pinned (.plain (OpenSpec.ofChange mirStepsSpec)) mirStepsCard

/-- THE SECOND FORM's CARD OF 'cocoonlaw09.MirTypes'. -/
def mirTypesUptoCard : Claim7 := { stood := { row := mirTypesUptoRow, standIns := [], harness := (true, "8d086e20bc4d5c08ca185c7fc0358fb96cd0604584db6947723f0ce29d63ce28"), looks := false }, kinds := [], alts := [], laidByText := true, laidKinds := [.data, .data, .data], laidTests := true, laidLooks := .later }
def MirTypesUptoCardSaid : Prop := Claim7.holds Tryz.pinned (.plain (OpenSpec.upto mirTypesSpec)) mirTypesUptoCard

/-- THE SECOND FORM's CARD OF 'cocoonlaw09.MirValid'. -/
def mirValidUptoCard : Claim7 := { stood := { row := mirValidUptoRow, standIns := [], harness := (true, "8d086e20bc4d5c08ca185c7fc0358fb96cd0604584db6947723f0ce29d63ce28"), looks := false }, kinds := [], alts := [], laidByText := true, laidKinds := [.data, .data, .data], laidTests := true, laidLooks := .later }
def MirValidUptoCardSaid : Prop := Claim7.holds Tryz.pinned (.plain (OpenSpec.upto mirValidSpec)) mirValidUptoCard

/-- THE SECOND FORM's CARD OF 'cocoonlaw09.MirMore'. -/
def mirMoreUptoCard : Claim7 := { stood := { row := mirMoreUptoRow, standIns := [], harness := (true, "8d086e20bc4d5c08ca185c7fc0358fb96cd0604584db6947723f0ce29d63ce28"), looks := false }, kinds := [], alts := [], laidByText := true, laidKinds := [.data, .data, .data], laidTests := true, laidLooks := .later }
def MirMoreUptoCardSaid : Prop := Claim7.holds Tryz.pinned (.plain (OpenSpec.upto mirMoreSpec)) mirMoreUptoCard

/-- THE SECOND FORM's CARD OF 'cocoonlaw09.MirUses'. -/
def mirUsesUptoCard : Claim7 := { stood := { row := mirUsesUptoRow, standIns := [], harness := (true, "8d086e20bc4d5c08ca185c7fc0358fb96cd0604584db6947723f0ce29d63ce28"), looks := false }, kinds := [], alts := [], laidByText := true, laidKinds := [.data, .data, .data], laidTests := true, laidLooks := .later }
def MirUsesUptoCardSaid : Prop := Claim7.holds Tryz.pinned (.plain (OpenSpec.upto mirUsesSpec)) mirUsesUptoCard

/-- THE SECOND FORM's CARD OF 'cocoonlaw09.MirSteps'. -/
def mirStepsUptoCard : Claim7 := { stood := { row := mirStepsUptoRow, standIns := [], harness := (true, "8d086e20bc4d5c08ca185c7fc0358fb96cd0604584db6947723f0ce29d63ce28"), looks := false }, kinds := [], alts := [], laidByText := true, laidKinds := [.data, .data, .data], laidTests := true, laidLooks := .later }
def MirStepsUptoCardSaid : Prop := Claim7.holds Tryz.pinned (.plain (OpenSpec.upto mirStepsSpec)) mirStepsUptoCard
end Rows
end Go.Proofs.YtghkbihgdabamaaGreatDoor
