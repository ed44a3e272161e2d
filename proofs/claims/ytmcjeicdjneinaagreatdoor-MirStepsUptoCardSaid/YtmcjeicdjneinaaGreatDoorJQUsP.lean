/-
  Plain lemmas for the statements of mir: what a valid body's spots have as types. No conditions.
-/
import Derived.Test.YtmcjeicdjneinaaGreatDoorJQMVal
import Derived.Test.YtmcjeicdjneinaaGreatDoorJQValid
namespace Go.Proofs.YtmcjeicdjneinaaGreatDoor
open Go.RowKit

end Go.Proofs.YtmcjeicdjneinaaGreatDoor
