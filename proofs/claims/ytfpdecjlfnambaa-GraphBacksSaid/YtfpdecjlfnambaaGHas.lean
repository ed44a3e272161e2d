/-
  Graph's laws: has. Conditions: the numbers lie in the heap.
-/
import Derived.Test.YtfpdecjlfnambaaGFlags
namespace Go.Proofs.Ytfpdecjlfnambaa
open Go Go.RowKit

set_option maxRecDepth 100000 in
set_option maxHeartbeats 4000000 in
theorem has_any (n0 : Nat) (v : Value) (l : List Int) (x : Int) (w : World) (hv : IRow n0 w v l) (hl : l.length ≤ 1000000) :
    Calls Try.prog 25 #[v, .int .i64 x] w fun e w' => e = .returned (.bool (decide (x ∈ l))) ∧ w' = w := by
  obtain ⟨oa, cap, rfl, hm2⟩ := hv
  obtain ⟨m, hmm⟩ : ∃ m, m = l.length := ⟨_, rfl⟩
  rw [← hmm] at hm2 hl ⊢
  have HA := Lib.hid (And.intro hm2 hmm)
  clear hm2 hmm
  go_enter Try.func25, Try.ntmps25
  go_wp2
  go_loopw [5] (fun i wr => ∃ k : Nat, k ≤ m ∧ i = .int .i64 k ∧ wr = w ∧ ∀ j, j < k → l[j]? ≠ some x)
    (fun i _ => m - (intOf i).toNat)
  case atStart => exact ⟨0, Nat.zero_le _, rfl, rfl, fun j hj => absurd hj (by omega)⟩
  case round =>
    obtain ⟨k, hk, rfl, rfl, hno⟩ := hrel
    by_cases hlt : k < m
    · obtain ⟨hm2, hmm⟩ := HA.out
      obtain ⟨b, off, rfl, hbl, hc⟩ := hm2 (by omega)
      have hcx := hc k hlt
      obtain ⟨y, hy⟩ : ∃ y, y = l[k]?.getD 0 := ⟨_, rfl⟩
      rw [← hy] at hcx
      have hky : l[k]? = some y := by rw [hy, List.getElem?_eq_getElem (by omega)]; rfl
      have HB := Lib.hid (And.intro hno (And.intro hmm hky))
      clear hno hmm hky hm2 hc hy hbl
      by_cases hyx : y = x
      · subst hyx
        go_wp2
        go_ret
        obtain ⟨hno, hmm, hky⟩ := HB.out
        have hin : y ∈ l := List.mem_of_getElem? hky
        exact ⟨by simp [hin], rfl⟩
      · have hyx' : (y == x) = false := by simpa using hyx
        have HY := Lib.hid hyx
        clear hyx
        go_wp2
        go_roundw
        case rel =>
          obtain ⟨hno, hmm, hky⟩ := HB.out
          refine ⟨k + 1, by omega, by simp, by trivial, fun j hj => ?_⟩
          by_cases e : j = k
          · subst e
            rw [hky]
            exact fun e => HY.out (Option.some.inj e)
          · exact hno j (by omega)
        case measure => simp [intOf]; omega
    · obtain rfl : k = m := by omega
      have HB := Lib.hid hno
      clear hno
      go_wp2
      go_ret
      have hno := HB.out
      have hmm := HA.out.2
      have hin : x ∉ l := fun h => by
        obtain ⟨j, hj, e⟩ := List.mem_iff_getElem.1 h
        exact hno j (by omega) (by rw [List.getElem?_eq_getElem hj, e])
      exact ⟨by simp [hin], rfl⟩
end Go.Proofs.Ytfpdecjlfnambaa
