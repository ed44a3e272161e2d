/-
  DERIVED. GIVEN WITH THE SEED: THE CARDS: each row of YtggdpgaedmegbaaGreatDoorRows.lean that lists a variable, with what it lists TIED to the program's text (the seventh form; the later family's looks); each row that meets fmt, with fmt's text TOLD by the authors' own Lean function (tested against real Go, not proved from fmt's source: count such statements apart). THE CARD IS WHAT COUNTS. Prove the row's statement (the work); the ties are given (YtggdpgaedmegbaaGreatDoorTie.lean); close each card by the builder's one call (the guide's Derived/Test/ToyasCard.lean, 'card_holds'). Laid BY PROGRAM, IN A SANDBOX (cutbox-door.mjs). By AI agents, Wed Nov 11 2026. No macro, syntax, notation, axiom, sorry.
-/
import Derived.Test.YtggdpgaedmegbaaGreatDoorRows
import GoSem.ClaimSeven
namespace Go.Proofs.YtggdpgaedmegbaaGreatDoor
namespace Rows

/-- THE TIED CARD OF 'cocoonlaw06.ParseReads'. -/
def parseReadsCard : Claim7 := { stood := { row := parseReadsRow, standIns := [], harness := (true, "cc34ccd882e41ef0c82654d16e8e85bf082fd6db72632ef4629e8bba89571354"), looks := true }, kinds := [], alts := [], laidByText := true, laidKinds := [.data, .data, .data, .sentinel, .sentinel, .data, .data, .data], laidTests := true, laidLooks := .later }
def ParseReadsCardSaid : Prop := Claim7.holds Tryz.pinned (.plain (OpenSpec.ofChange parseReadsSpec)) parseReadsCard

/-- THE TIED CARD OF 'cocoonlaw06.ParseGlue'. -/
def parseGlueCard : Claim7 := { stood := { row := parseGlueRow, standIns := [], harness := (true, "cc34ccd882e41ef0c82654d16e8e85bf082fd6db72632ef4629e8bba89571354"), looks := true }, kinds := [], alts := [], laidByText := true, laidKinds := [.data, .data, .data, .sentinel, .sentinel, .data, .data, .data], laidTests := true, laidLooks := .later }
def ParseGlueCardSaid : Prop := Claim7.holds Tryz.pinned (.plain (OpenSpec.ofChange parseGlueSpec)) parseGlueCard

/-- THE TIED CARD OF 'cocoonlaw06.ParseBlanks'. -/
def parseBlanksCard : Claim7 := { stood := { row := parseBlanksRow, standIns := [], harness := (true, "cc34ccd882e41ef0c82654d16e8e85bf082fd6db72632ef4629e8bba89571354"), looks := true }, kinds := [], alts := [], laidByText := true, laidKinds := [.data, .data, .data, .sentinel, .sentinel, .data, .data, .data], laidTests := true, laidLooks := .later }
def ParseBlanksCardSaid : Prop := Claim7.holds Tryz.pinned (.plain (OpenSpec.ofChange parseBlanksSpec)) parseBlanksCard

/-- THE TIED CARD OF 'cocoonlaw07.KindsChecks'. -/
def kindsChecksCard : Claim7 := { stood := { row := kindsChecksRow, standIns := [], harness := (true, "cc34ccd882e41ef0c82654d16e8e85bf082fd6db72632ef4629e8bba89571354"), looks := true }, kinds := [], alts := [], laidByText := true, laidKinds := [.data, .data, .data, .sentinel, .sentinel, .data, .data, .data], laidTests := true, laidLooks := .later }
def KindsChecksCardSaid : Prop := Claim7.holds Tryz.pinned (.plain (OpenSpec.ofChange kindsChecksSpec)) kindsChecksCard

/-- THE TIED CARD OF 'cocoonlaw07.KindsAdds'. -/
def kindsAddsCard : Claim7 := { stood := { row := kindsAddsRow, standIns := [], harness := (true, "cc34ccd882e41ef0c82654d16e8e85bf082fd6db72632ef4629e8bba89571354"), looks := true }, kinds := [], alts := [], laidByText := true, laidKinds := [.data, .data, .data, .sentinel, .sentinel, .data, .data, .data], laidTests := true, laidLooks := .later }
def KindsAddsCardSaid : Prop := Claim7.holds Tryz.pinned (.plain (OpenSpec.ofChange kindsAddsSpec)) kindsAddsCard

/-- THE TIED CARD OF 'cocoonlaw07.KindsMore'. -/
def kindsMoreCard : Claim7 := { stood := { row := kindsMoreRow, standIns := [], harness := (true, "cc34ccd882e41ef0c82654d16e8e85bf082fd6db72632ef4629e8bba89571354"), looks := true }, kinds := [], alts := [], laidByText := true, laidKinds := [.data, .data, .data, .sentinel, .sentinel, .data, .data, .data], laidTests := true, laidLooks := .later }
def KindsMoreCardSaid : Prop := Claim7.holds Tryz.pinned (.plain (OpenSpec.ofChange kindsMoreSpec)) kindsMoreCard

/-- THE TIED CARD OF 'cocoonlaw07.KindsOrder'. -/
def kindsOrderCard : Claim7 := { stood := { row := kindsOrderRow, standIns := [], harness := (true, "cc34ccd882e41ef0c82654d16e8e85bf082fd6db72632ef4629e8bba89571354"), looks := true }, kinds := [], alts := [], laidByText := true, laidKinds := [.data, .data, .data, .sentinel, .sentinel, .data, .data, .data], laidTests := true, laidLooks := .later }
def KindsOrderCardSaid : Prop := Claim7.holds Tryz.pinned (.plain (OpenSpec.ofChange kindsOrderSpec)) kindsOrderCard

/-- THE TIED CARD OF 'cocoonlaw07.KindsBox'. -/
def kindsBoxCard : Claim7 := { stood := { row := kindsBoxRow, standIns := [], harness := (true, "cc34ccd882e41ef0c82654d16e8e85bf082fd6db72632ef4629e8bba89571354"), looks := true }, kinds := [], alts := [], laidByText := true, laidKinds := [.data, .data, .data, .sentinel, .sentinel, .data, .data, .data], laidTests := true, laidLooks := .later }
def KindsBoxCardSaid : Prop := Claim7.holds Tryz.pinned (.plain (OpenSpec.ofChange kindsBoxSpec)) kindsBoxCard

/-- THE TIED CARD OF 'cocoonlaw09.MirMore'. -/
def mirMoreCard : Claim7 := { stood := { row := mirMoreRow, standIns := [], harness := (true, "cc34ccd882e41ef0c82654d16e8e85bf082fd6db72632ef4629e8bba89571354"), looks := true }, kinds := [], alts := [], laidByText := true, laidKinds := [.data, .data, .data], laidTests := true, laidLooks := .later }
def MirMoreCardSaid : Prop := Claim7.holds Tryz.pinned (.plain (OpenSpec.ofChange mirMoreSpec)) mirMoreCard

/-- THE TIED CARD OF 'cocoonlaw09.MirUses'. -/
def mirUsesCard : Claim7 := { stood := { row := mirUsesRow, standIns := [], harness := (true, "cc34ccd882e41ef0c82654d16e8e85bf082fd6db72632ef4629e8bba89571354"), looks := true }, kinds := [], alts := [], laidByText := true, laidKinds := [.data, .data, .data], laidTests := true, laidLooks := .later }
def MirUsesCardSaid : Prop := Claim7.holds Tryz.pinned (.plain (OpenSpec.ofChange mirUsesSpec)) mirUsesCard

/-- THE TIED CARD OF 'cocoonlaw09.MirSteps'. -/
def mirStepsCard : Claim7 := { stood := { row := mirStepsRow, standIns := [], harness := (true, "cc34ccd882e41ef0c82654d16e8e85bf082fd6db72632ef4629e8bba89571354"), looks := true }, kinds := [], alts := [], laidByText := true, laidKinds := [.data, .data, .data], laidTests := true, laidLooks := .later }
def MirStepsCardSaid : Prop := Claim7.holds Tryz.pinned (.plain (OpenSpec.ofChange mirStepsSpec)) mirStepsCard

/-- THE SECOND FORM's CARD OF 'cocoonlaw06.ParseReads'. -/
def parseReadsUptoCard : Claim7 := { stood := { row := parseReadsUptoRow, standIns := [], harness := (true, "cc34ccd882e41ef0c82654d16e8e85bf082fd6db72632ef4629e8bba89571354"), looks := true }, kinds := [], alts := [], laidByText := true, laidKinds := [.data, .data, .data, .sentinel, .sentinel, .data, .data, .data], laidTests := true, laidLooks := .later }
def ParseReadsUptoCardSaid : Prop := Claim7.holds Tryz.pinned (.plain (OpenSpec.upto parseReadsSpec)) parseReadsUptoCard

/-- THE SECOND FORM's CARD OF 'cocoonlaw06.ParseGlue'. -/
def parseGlueUptoCard : Claim7 := { stood := { row := parseGlueUptoRow, standIns := [], harness := (true, "cc34ccd882e41ef0c82654d16e8e85bf082fd6db72632ef4629e8bba89571354"), looks := true }, kinds := [], alts := [], laidByText := true, laidKinds := [.data, .data, .data, .sentinel, .sentinel, .data, .data, .data], laidTests := true, laidLooks := .later }
def ParseGlueUptoCardSaid : Prop := Claim7.holds Tryz.pinned (.plain (OpenSpec.upto parseGlueSpec)) parseGlueUptoCard

/-- THE SECOND FORM's CARD OF 'cocoonlaw06.ParseBlanks'. -/
def parseBlanksUptoCard : Claim7 := { stood := { row := parseBlanksUptoRow, standIns := [], harness := (true, "cc34ccd882e41ef0c82654d16e8e85bf082fd6db72632ef4629e8bba89571354"), looks := true }, kinds := [], alts := [], laidByText := true, laidKinds := [.data, .data, .data, .sentinel, .sentinel, .data, .data, .data], laidTests := true, laidLooks := .later }
def ParseBlanksUptoCardSaid : Prop := Claim7.holds Tryz.pinned (.plain (OpenSpec.upto parseBlanksSpec)) parseBlanksUptoCard

/-- THE SECOND FORM's CARD OF 'cocoonlaw07.KindsChecks'. -/
def kindsChecksUptoCard : Claim7 := { stood := { row := kindsChecksUptoRow, standIns := [], harness := (true, "cc34ccd882e41ef0c82654d16e8e85bf082fd6db72632ef4629e8bba89571354"), looks := true }, kinds := [], alts := [], laidByText := true, laidKinds := [.data, .data, .data, .sentinel, .sentinel, .data, .data, .data], laidTests := true, laidLooks := .later }
def KindsChecksUptoCardSaid : Prop := Claim7.holds Tryz.pinned (.plain (OpenSpec.upto kindsChecksSpec)) kindsChecksUptoCard

/-- THE SECOND FORM's CARD OF 'cocoonlaw07.KindsAdds'. -/
def kindsAddsUptoCard : Claim7 := { stood := { row := kindsAddsUptoRow, standIns := [], harness := (true, "cc34ccd882e41ef0c82654d16e8e85bf082fd6db72632ef4629e8bba89571354"), looks := true }, kinds := [], alts := [], laidByText := true, laidKinds := [.data, .data, .data, .sentinel, .sentinel, .data, .data, .data], laidTests := true, laidLooks := .later }
def KindsAddsUptoCardSaid : Prop := Claim7.holds Tryz.pinned (.plain (OpenSpec.upto kindsAddsSpec)) kindsAddsUptoCard

/-- THE SECOND FORM's CARD OF 'cocoonlaw07.KindsMore'. -/
def kindsMoreUptoCard : Claim7 := { stood := { row := kindsMoreUptoRow, standIns := [], harness := (true, "cc34ccd882e41ef0c82654d16e8e85bf082fd6db72632ef4629e8bba89571354"), looks := true }, kinds := [], alts := [], laidByText := true, laidKinds := [.data, .data, .data, .sentinel, .sentinel, .data, .data, .data], laidTests := true, laidLooks := .later }
def KindsMoreUptoCardSaid : Prop := Claim7.holds Tryz.pinned (.plain (OpenSpec.upto kindsMoreSpec)) kindsMoreUptoCard

/-- THE SECOND FORM's CARD OF 'cocoonlaw07.KindsOrder'. -/
def kindsOrderUptoCard : Claim7 := { stood := { row := kindsOrderUptoRow, standIns := [], harness := (true, "cc34ccd882e41ef0c82654d16e8e85bf082fd6db72632ef4629e8bba89571354"), looks := true }, kinds := [], alts := [], laidByText := true, laidKinds := [.data, .data, .data, .sentinel, .sentinel, .data, .data, .data], laidTests := true, laidLooks := .later }
def KindsOrderUptoCardSaid : Prop := Claim7.holds Tryz.pinned (.plain (OpenSpec.upto kindsOrderSpec)) kindsOrderUptoCard

/-- THE SECOND FORM's CARD OF 'cocoonlaw07.KindsBox'. -/
def kindsBoxUptoCard : Claim7 := { stood := { row := kindsBoxUptoRow, standIns := [], harness := (true, "cc34ccd882e41ef0c82654d16e8e85bf082fd6db72632ef4629e8bba89571354"), looks := true }, kinds := [], alts := [], laidByText := true, laidKinds := [.data, .data, .data, .sentinel, .sentinel, .data, .data, .data], laidTests := true, laidLooks := .later }
def KindsBoxUptoCardSaid : Prop := Claim7.holds Tryz.pinned (.plain (OpenSpec.upto kindsBoxSpec)) kindsBoxUptoCard

/-- THE SECOND FORM's CARD OF 'cocoonlaw09.MirMore'. -/
def mirMoreUptoCard : Claim7 := { stood := { row := mirMoreUptoRow, standIns := [], harness := (true, "cc34ccd882e41ef0c82654d16e8e85bf082fd6db72632ef4629e8bba89571354"), looks := true }, kinds := [], alts := [], laidByText := true, laidKinds := [.data, .data, .data], laidTests := true, laidLooks := .later }
def MirMoreUptoCardSaid : Prop := Claim7.holds Tryz.pinned (.plain (OpenSpec.upto mirMoreSpec)) mirMoreUptoCard

/-- THE SECOND FORM's CARD OF 'cocoonlaw09.MirUses'. -/
def mirUsesUptoCard : Claim7 := { stood := { row := mirUsesUptoRow, standIns := [], harness := (true, "cc34ccd882e41ef0c82654d16e8e85bf082fd6db72632ef4629e8bba89571354"), looks := true }, kinds := [], alts := [], laidByText := true, laidKinds := [.data, .data, .data], laidTests := true, laidLooks := .later }
def MirUsesUptoCardSaid : Prop := Claim7.holds Tryz.pinned (.plain (OpenSpec.upto mirUsesSpec)) mirUsesUptoCard

/-- THE SECOND FORM's CARD OF 'cocoonlaw09.MirSteps'. -/
def mirStepsUptoCard : Claim7 := { stood := { row := mirStepsUptoRow, standIns := [], harness := (true, "cc34ccd882e41ef0c82654d16e8e85bf082fd6db72632ef4629e8bba89571354"), looks := true }, kinds := [], alts := [], laidByText := true, laidKinds := [.data, .data, .data], laidTests := true, laidLooks := .later }
def MirStepsUptoCardSaid : Prop := Claim7.holds Tryz.pinned (.plain (OpenSpec.upto mirStepsSpec)) mirStepsUptoCard
end Rows
end Go.Proofs.YtggdpgaedmegbaaGreatDoor
