/-
  Graph: Flow and Back at a body without blocks. No conditions.
-/
import Derived.Test.YtfpdecjlfnambaaGModel
namespace Go.Proofs.Ytfpdecjlfnambaa
open Go Go.RowKit Go.Shelf

set_option maxRecDepth 100000 in
set_option maxHeartbeats 4000000 in
theorem flow_none (B : Bv) (hg : B.g = []) (v1 v2 v3 v4 : Value) (w : World) : Calls Try.prog 13 #[B.v, v1, v2, v3, v4] w fun e w' => e = .returned (.slice none 0 0) ∧ Below w.heap.size w w' := by
  obtain ⟨nm, pa, lo, oa, cap, g⟩ := B
  simp only at hg
  subst hg
  unfold Bv.v Bv.cs
  simp only [List.length_nil]
  go_enter Try.func13, Try.ntmps13
  go_wp2
  go_ret
  exact ⟨rfl, (Below.refl _ _).alloc (Nat.le_refl _) _⟩
set_option maxRecDepth 100000 in
set_option maxHeartbeats 4000000 in
theorem back_none (B : Bv) (hg : B.g = []) (v1 v2 : Value) (w : World) : Calls Try.prog 16 #[B.v, v1, v2] w fun e w' => e = .returned (.slice none 0 0) ∧ Below w.heap.size w w' := by
  obtain ⟨nm, pa, lo, oa, cap, g⟩ := B
  simp only at hg
  subst hg
  unfold Bv.v Bv.cs
  simp only [List.length_nil]
  go_enter Try.func16, Try.ntmps16
  go_wp2
  go_ret
  exact ⟨rfl, (Below.refl _ _).alloc (Nat.le_refl _) _⟩
end Go.Proofs.Ytfpdecjlfnambaa
