/-
  Graph: begin. Conditions: the flow lies in the heap.
-/
import Derived.Test.YtfpdecjlfnambaaGRows
namespace Go.Proofs.Ytfpdecjlfnambaa
open Go Go.RowKit

set_option maxRecDepth 100000 in
set_option maxHeartbeats 4000000 in
theorem begin_any (f m : Nat) (B : Bv) (n : Nat) (back : Bool) (fi no al : Value) (bc capc : Nat) (c : List Bool) (ex : List Value) (flag : Bool) (w : World)
    (hf : Bx w f 79 (flC m B n (.slice (some ⟨bc, 0, none⟩) c.length capc) back fi no al)) (hfi : ∃ o k q, fi = .slice o k q) (hbc : Bx w bc 4 (bC c ++ ex)) (hcl : c.length = B.g.length) (hn : n ≤ 1000) (hc : c.length ≤ 1000) :
    Calls Try.prog 28 #[.pointer (some ⟨f, 0, none⟩), .bool flag] w fun e w' => (∃ u, e = .returned u) ∧ ∃ bm R, w.heap.size ≤ bm ∧ (∀ i ∈ ones c, w.heap.size ≤ R i) ∧
      (∀ i ∈ ones c, ∀ j ∈ ones c, R i = R j → i = j) ∧ Kep (fun b => b = f) w w' ∧ Bx w' f 79 (flC m B n (.slice (some ⟨bc, 0, none⟩) c.length capc) back (.slice (some ⟨bm, 0, none⟩) c.length c.length) no al) ∧ Mat w' bm c n R (fun _ => List.replicate n flag) := by
  have hr := rows_any f m B n back fi no al bc capc c ex flag w hf hbc hcl hn hc
  obtain ⟨o, k, q, rfl⟩ := hfi
  have HR := Lib.hid hr
  have HF := Lib.hid hf
  have hfl := hf.lt
  clear hr hf hbc hcl hc
  go_enter Try.func28, Try.ntmps28
  go_wp2_with (go_at_call 43; refine HR.out.mono ?_; clear HR; rintro e w2 ⟨bm, R, rfl, h1, h2, h3, h4, h5⟩; have hf2 := HF.out.below h4 hfl; have c8 := hf2.cell 8; have f8 := hf2.frozen 8; simp [flC] at c8; have HP := Lib.hid (And.intro h1 (And.intro h2 (And.intro h3 (And.intro h4 (And.intro h5 hf2))))); clear h1 h2 h3 h4 h5 hf2)
  go_end0
  obtain ⟨h1, h2, h3, h4, h5, hf2⟩ := HP.out
  refine ⟨⟨_, rfl⟩, bm, R, h1, h2, h3, Kep.setCell (M := fun b => b = f) (p := ⟨f, 8, none⟩) (Kep.of_below h4) (.inr rfl) _, hf2.set 8 _, h5.of (Below.heap_setCell _ _ _ _ (by show bm ≠ f; omega)) (fun i hi => Below.heap_setCell _ _ _ _ (by have := h2 i hi; show R i ≠ f; omega))⟩

end Go.Proofs.Ytfpdecjlfnambaa
