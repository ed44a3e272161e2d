/-
  Several texts of the proof in one: LPass, LWord, LRes, PBase, PNext. No conditions of their own: each lemma states its own.
-/
import Derived.Test.YtghkbihgdabamaaGreatDoorKLKit
import Derived.Test.YtghkbihgdabamaaGreatDoorKShelf
import Derived.Test.YtghkbihgdabamaaGreatDoorKLScan
import Derived.Deep.DeepCutAuto
namespace Go.Proofs.YtghkbihgdabamaaGreatDoor
open Go.RowKit

end Go.Proofs.YtghkbihgdabamaaGreatDoor

namespace Go.Proofs.YtghkbihgdabamaaGreatDoor
open Go.RowKit

end Go.Proofs.YtghkbihgdabamaaGreatDoor

namespace Go.Proofs.YtghkbihgdabamaaGreatDoor
open Go.RowKit

end Go.Proofs.YtghkbihgdabamaaGreatDoor

namespace Go.Proofs.YtghkbihgdabamaaGreatDoor
open Go.RowKit

end Go.Proofs.YtghkbihgdabamaaGreatDoor

namespace Go.Proofs.YtghkbihgdabamaaGreatDoor
open Go.RowKit

theorem cells3p {w : World} {k : Nat} {v0 v1 v2 : Value} {t : TypeId} (h : w.heap[k]? = some (.cells #[v0, v1, v2] t)) :
    w.cell? ⟨k, 0, none⟩ = some v0 ∧ w.cell? ⟨k, 1, none⟩ = some v1 ∧ w.cell? ⟨k, 2, none⟩ = some v2 ∧ (∀ j, w.frozen? ⟨k, j, none⟩ = false) ∧ k < w.heap.size := by
  have hl := (Array.getElem?_eq_some_iff.1 h).1
  exact ⟨by simp [World.cell?, h], by simp [World.cell?, h], by simp [World.cell?, h], fun j => by simp [World.frozen?, h], hl⟩
end Go.Proofs.YtghkbihgdabamaaGreatDoor
