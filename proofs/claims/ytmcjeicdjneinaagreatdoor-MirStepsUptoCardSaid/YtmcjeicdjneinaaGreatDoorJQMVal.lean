/-
  mir.Value: a value's type, in blocks of its own. Conditions: the source, the body and the value lie in the heap; no declared type is too large, nor the value's.
-/
import Derived.Test.YtmcjeicdjneinaaGreatDoorJQValue
import Derived.Test.YtmcjeicdjneinaaGreatDoorJQSett
namespace Go.Proofs.YtmcjeicdjneinaaGreatDoor
open Go.RowKit

end Go.Proofs.YtmcjeicdjneinaaGreatDoor
