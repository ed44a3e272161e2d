/-
  ParseGlue's walk: true of any two texts. Conditions: the package variables lie as the program's text lays them.
-/
import Derived.Test.YtggdpgaedmegbaaGreatDoorJPGl1
import Derived.Test.YtggdpgaedmegbaaGreatDoorJPGl3
import Derived.Test.YtggdpgaedmegbaaGreatDoorJPGl4
namespace Go.Proofs.YtggdpgaedmegbaaGreatDoor
open Go.RowKit

theorem glue_walk (a b : ByteArray) (w : World) (hV : Vars w) : Calls Tryz.prog 4 #[.string a, .string b] w fun e w' => e = .returned (.bool true) ∧ Below w.heap.size w w' := by
  by_cases ha : a.size ≤ 3000
  · by_cases hb : b.size ≤ 3000
    · cases hpa : parseR a with
      | no f q => exact glue_noa a b w hV ha hb hpa
      | ok x r =>
        cases hl : lexL (bs b) with
        | bad er q => exact glue_bad a b w hV ha hb hpa hl
        | good tb =>
          cases hpb : parseR b with
          | no f q => exact glue_nob a b w hV ha hb hpa hpb hl
          | ok y r2 => exact glue_main a b w hV ha hb hpa hpb
    · exact glue_long2 a b w hV ha hb
  · exact glue_long1 a b w hV ha
end Go.Proofs.YtggdpgaedmegbaaGreatDoor
