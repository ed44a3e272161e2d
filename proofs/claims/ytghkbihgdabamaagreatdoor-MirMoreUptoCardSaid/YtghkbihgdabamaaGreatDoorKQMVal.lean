/-
  mir.Value: a value's type, in blocks of its own. Conditions: the source, the body and the value lie in the heap; no declared type is too large, nor the value's.
-/
import Derived.Test.YtghkbihgdabamaaGreatDoorKQValue
import Derived.Test.YtghkbihgdabamaaGreatDoorKQSett
namespace Go.Proofs.YtghkbihgdabamaaGreatDoor
open Go.RowKit

end Go.Proofs.YtghkbihgdabamaaGreatDoor
