/-
  Plain lemmas for the statements of mir: what a valid body's spots have as types. No conditions.
-/
import Derived.Test.YtghkbihgdabamaaGreatDoorKQMVal
import Derived.Test.YtghkbihgdabamaaGreatDoorKQValid
namespace Go.Proofs.YtghkbihgdabamaaGreatDoor
open Go.RowKit

end Go.Proofs.YtghkbihgdabamaaGreatDoor
