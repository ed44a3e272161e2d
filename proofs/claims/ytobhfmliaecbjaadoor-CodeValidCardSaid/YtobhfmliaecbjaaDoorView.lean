/-
  The viewer's functions: is, fits, instruction. Conditions: what they look at lies in the heap.
-/
import Derived.Test.YtobhfmliaecbjaaDoorKinds
import Derived.StillTailTactics
namespace Go.Proofs.YtobhfmliaecbjaaDoor
open Go.RowKit

def isB (ks : List Int) (f k : Int) : Bool := below f ks.length && (ks.getD f.toNat 0 == k)

set_option maxHeartbeats 1000000 in
theorem is_any (w : World) (fv cv kv : Value) (ks : List Int) (hI : IntsV w kv ks) (f k : Int) : Calls Tryd.prog 40 #[.agg #[fv, cv, kv], .int .i64 f, .int .i64 k] w fun e w' => e = .returned (.bool (isB ks f k)) ∧ Below w.heap.size w w' := by
  obtain ⟨oa, cap, b, off, rfl, h1, h2, h3, h4⟩ := hI.below (alloc_below w (.cells #[fv, cv, kv] 57))
  cases hb : below f ks.length with
  | false =>
    have HB := Lib.hid hb
    clear hb h4 h3
    go_enter Tryd.func40, Tryd.ntmps40
    go_wp2_with fail
    refine (below_any f _ _).mono ?_
    rintro e w1 ⟨rfl, rfl⟩
    rw [HB.out]
    go_wp2
    go_ret
    exact ⟨by rw [isB, HB.out]; rfl, alloc_below _ _⟩
  | true =>
    have h01 : 0 ≤ f ∧ f < ks.length := by simpa [below] using hb
    have HB := Lib.hid hb
    clear hb
    obtain ⟨j, rfl⟩ : ∃ j : Nat, f = j := ⟨f.toNat, by omega⟩
    obtain ⟨rfl, hlt⟩ := h3 (by omega)
    obtain ⟨z, hz⟩ : ∃ z, ks[j]? = some z := ⟨_, List.getElem?_eq_getElem (by omega)⟩
    have g0 := h4 j z hz
    have HZ := Lib.hid (show isB ks j k = (z == k) by rw [isB, HB.out]; simp [List.getD, hz])
    clear h4 hz h3
    go_enter Tryd.func40, Tryd.ntmps40
    go_wp2_with fail
    refine (below_any j _ _).mono ?_
    rintro e w1 ⟨rfl, rfl⟩
    rw [HB.out]
    go_wp2
    go_ret
    exact ⟨by rw [HZ.out]; rfl, alloc_below _ _⟩

def fitsB (nc : Nat) (ks : List Int) (n f : Int) : Bool :=
  if f = 0 then n == 0 else if f = 1 ∨ f = 2 then below n 16 else if f = 4 then decide (0 ≤ n) else if f = 5 then below n 1048577 else if f = 6 then below n nc else if f = 7 then isB ks n 0 else true

theorem alloc_same (w : World) (o : Obj) (p : Addr) (hp : p.block < w.heap.size) : (w.alloc o).cell? p = w.cell? p := ((Below.refl _ _).alloc (Nat.le_refl _) o).cell hp

set_option maxRecDepth 100000 in
set_option maxHeartbeats 1000000 in
theorem fits_any (w : World) (fv kv : Value) (oac : Option Addr) (nc capc : Nat) (ks : List Int) (hI : IntsV w kv ks) (n f : Int) : Calls Tryd.prog 51 #[.agg #[fv, .slice oac nc capc, kv], .int .i64 n, .int .i64 f] w fun e w' => e = .returned (.bool (fitsB nc ks n f)) ∧ Below w.heap.size w w' := by
  have hI1 := hI.below (alloc_below w (.cells #[fv, .slice oac nc capc, kv] 57))
  replace hI1 := Lib.hid hI1
  have hB := alloc_below w (.cells #[fv, .slice oac nc capc, kv] 57)
  clear hI
  go_enter Tryd.func51, Tryd.ntmps51
  go_wp2_with (first | (go_at_call 31; refine (below_any _ _ _).mono ?_; rintro e w1 ⟨rfl, rfl⟩) | (go_at_call 40; refine (is_any _ _ _ _ ks hI1.out _ _).mono ?_; rintro e w1 ⟨rfl, hb1⟩))
  all_goals go_ret
  all_goals go_light
  all_goals (refine ⟨?_, by first | exact alloc_below _ _ | exact box_below (by assumption)⟩)
  all_goals (show Ending.returned (Value.bool _) = Ending.returned (Value.bool _); congr 2; simp_all [fitsB])
end Go.Proofs.YtobhfmliaecbjaaDoor
