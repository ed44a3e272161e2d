/-
  DERIVED. GIVEN WITH THE SEED: THE CARDS: each row of YtgpkhdccchpljaaDoorRows.lean that lists a variable, with what it lists TIED to the program's text (the seventh form; the later family's looks); each row that meets fmt, with fmt's text TOLD by the authors' own Lean function (tested against real Go, not proved from fmt's source: count such statements apart). THE CARD IS WHAT COUNTS. Prove the row's statement (the work); the ties are given (YtgpkhdccchpljaaDoorTie.lean); close each card by the builder's one call (the guide's Derived/Test/ToyasCard.lean, 'card_holds'). Laid BY PROGRAM, IN A SANDBOX (cutbox-door.mjs). By AI agents, Wed Nov 11 2026. No macro, syntax, notation, axiom, sorry.
-/
import Derived.Test.YtgpkhdccchpljaaDoorRows
import GoSem.ClaimSeven
namespace Go.Proofs.YtgpkhdccchpljaaDoor
namespace Rows

/-- THE TIED CARD OF 'cocoonlaw03.MachineMore'. -/
def machineMoreCard : Claim7 := { stood := { row := machineMoreRow, standIns := [], harness := (true, "4baccaeee945494f863aed20b4c1f284265ea854a8c1914658dbf4efa5d429aa"), looks := false }, kinds := [], alts := [], laidByText := true, laidKinds := [.data], laidTests := true, laidLooks := .later }
def MachineMoreCardSaid : Prop := Claim7.holds Tryd.pinned (.plain (OpenSpec.ofChange machineMoreSpec)) machineMoreCard

/-- THE TIED CARD OF 'cocoonlaw03.MachineSame'. -/
def machineSameCard : Claim7 := { stood := { row := machineSameRow, standIns := [], harness := (true, "4baccaeee945494f863aed20b4c1f284265ea854a8c1914658dbf4efa5d429aa"), looks := false }, kinds := [], alts := [], laidByText := true, laidKinds := [.data], laidTests := true, laidLooks := .later }
def MachineSameCardSaid : Prop := Claim7.holds Tryd.pinned (.plain (OpenSpec.ofChange machineSameSpec)) machineSameCard

/-- THE SECOND FORM's CARD OF 'cocoonlaw03.MachineMore'. -/
def machineMoreUptoCard : Claim7 := { stood := { row := machineMoreUptoRow, standIns := [], harness := (true, "4baccaeee945494f863aed20b4c1f284265ea854a8c1914658dbf4efa5d429aa"), looks := false }, kinds := [], alts := [], laidByText := true, laidKinds := [.data], laidTests := true, laidLooks := .later }
def MachineMoreUptoCardSaid : Prop := Claim7.holds Tryd.pinned (.plain (OpenSpec.upto machineMoreSpec)) machineMoreUptoCard

/-- THE SECOND FORM's CARD OF 'cocoonlaw03.MachineSame'. -/
def machineSameUptoCard : Claim7 := { stood := { row := machineSameUptoRow, standIns := [], harness := (true, "4baccaeee945494f863aed20b4c1f284265ea854a8c1914658dbf4efa5d429aa"), looks := false }, kinds := [], alts := [], laidByText := true, laidKinds := [.data], laidTests := true, laidLooks := .later }
def MachineSameUptoCardSaid : Prop := Claim7.holds Tryd.pinned (.plain (OpenSpec.upto machineSameSpec)) machineSameUptoCard
end Rows
end Go.Proofs.YtgpkhdccchpljaaDoor
