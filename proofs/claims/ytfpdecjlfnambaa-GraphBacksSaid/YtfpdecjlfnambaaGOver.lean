/-
  Graph's laws: over. Conditions: the body and the changes lie in the heap.
-/
import Derived.Test.YtfpdecjlfnambaaGChgP
namespace Go.Proofs.Ytfpdecjlfnambaa
open Go Go.RowKit

/-- What over says: if it is false, all is small. -/
def OverT (g : Gb) (ni : Int) (C : List Chg) (w : World) (e : Ending) (w' : World) : Prop :=
  Below w.heap.size w w' ∧ ∃ o, e = .returned (.bool o) ∧ (o = false → g.length ≤ 30 ∧ ni ≤ 30 ∧ C.length ≤ 90 ∧ (∀ i, i < g.length → insR g i ≤ 30 ∧ (toR g i).length ≤ 30) ∧ ∀ i, i < C.length → (C[i]?.getD default).gen.length ≤ 30 ∧ (C[i]?.getD default).kill.length ≤ 30)

set_option maxRecDepth 100000 in
set_option maxHeartbeats 4000000 in
theorem over_any (n0 : Nat) (B : Bv) (ni : Int) (oc : Option Addr) (capC : Nat) (C : List Chg) (w : World) (hB : B.At n0 w) (hC : CRow n0 w oc C) (hn0 : n0 ≤ w.heap.size) :
    Calls Try.prog 11 #[B.v, .int .i64 ni, .slice oc C.length capC] w fun e w' => OverT B.g ni C w e w' := by
  obtain ⟨nm, pa, lo, oa, cap, g⟩ := B
  simp only
  obtain ⟨L, hL⟩ : ∃ L, L = g.length := ⟨_, rfl⟩
  obtain ⟨nC, hnC⟩ : ∃ k, k = C.length := ⟨_, rfl⟩
  have HA := Lib.hid (And.intro hB (And.intro hC (And.intro hn0 (And.intro hL hnC))))
  rw [← hnC]
  unfold Bv.v Bv.cs
  simp only [← hL]
  clear hB hC hn0 hL hnC
  go_enter Try.func11, Try.ntmps11
  by_cases h1 : 30 < L
  · go_wp2
    go_ret
    exact ⟨(Below.refl _ _).alloc (Nat.le_refl _) _, true, rfl, fun h => by cases h⟩
  by_cases h2 : 30 < ni
  · go_wp2
    go_ret
    exact ⟨(Below.refl _ _).alloc (Nat.le_refl _) _, true, rfl, fun h => by cases h⟩
  by_cases h3 : 90 < nC
  · go_wp2
    go_ret
    exact ⟨(Below.refl _ _).alloc (Nat.le_refl _) _, true, rfl, fun h => by cases h⟩
  obtain ⟨w1, hw1⟩ : ∃ w1, w1 = w.alloc (.cells #[nm, pa, lo, .slice oa L cap] 25) := ⟨_, rfl⟩
  obtain ⟨s, hs⟩ : ∃ s, s = w.heap.size := ⟨_, rfl⟩
  have H2 := Lib.hid h2
  go_wp2
  rw [← hw1, ← hs]
  have hb1 : Below w.heap.size w w1 := by
    rw [hw1]
    exact (Below.refl _ _).alloc (Nat.le_refl _) _
  have hxs : Bx w1 s 25 [nm, pa, lo, .slice oa L cap] := by
    rw [hw1, hs]
    exact Bx.new w _ [nm, pa, lo, .slice oa L cap]
  have y3 := hxs.cell 3
  simp at y3
  have HW := Lib.hid (And.intro hb1 (And.intro hw1 hs))
  clear hb1 hw1 hs hxs
  go_loopw [7] (fun i wr => ∃ k : Nat, k ≤ L ∧ i = .int .i64 k ∧ wr = w1 ∧ ∀ j, j < k → insR g j ≤ 30 ∧ (toR g j).length ≤ 30)
    (fun i _ => L - (intOf i).toNat)
  case atStart => exact ⟨0, Nat.zero_le _, rfl, by trivial, fun j hj => absurd hj (by omega)⟩
  case round =>
    obtain ⟨k, hk, rfl, rfl, hno⟩ := hrel
    by_cases hlt : k < L
    · obtain ⟨hB, hC, hn0, hL, hnC⟩ := HA.out
      have hB1 := hB.below HW.out.1 hn0
      obtain ⟨bl, off, rfl, hbl, hrow⟩ := hB1 (by show 0 < g.length; omega)
      obtain ⟨⟨ia, ic, c1⟩, vt, c2, ob, cb, rfl, -⟩ := hrow k (by show k < g.length; omega)
      obtain ⟨a, ha⟩ : ∃ a, a = insR g k := ⟨_, rfl⟩
      obtain ⟨b, hb⟩ : ∃ b, b = (toR g k).length := ⟨_, rfl⟩
      rw [← ha] at c1
      rw [← hb] at c2
      have HB := Lib.hid (And.intro hno (And.intro ha hb))
      clear hno ha hb hB hC hn0 hL hnC hrow hB1
      by_cases g1 : 30 < a
      · go_wp2
        go_ret
        exact ⟨HW.out.1, true, rfl, fun h => by cases h⟩
      by_cases g2 : 30 < b
      · go_wp2
        go_ret
        exact ⟨HW.out.1, true, rfl, fun h => by cases h⟩
      go_wp2
      go_roundw
      case rel =>
        obtain ⟨hno, ha, hb⟩ := HB.out
        refine ⟨k + 1, by omega, by simp, by trivial, fun j hj => ?_⟩
        by_cases e : j = k
        · subst e
          exact ⟨by omega, by omega⟩
        · exact hno j (by omega)
      case measure => simp [intOf]; omega
    · obtain rfl : k = L := by omega
      have HN := Lib.hid hno
      clear hno
      go_wp2
      go_loopw [8] (fun i wq => ∃ q : Nat, q ≤ nC ∧ i = .int .i64 q ∧ wq = wr ∧ ∀ j, j < q → (C[j]?.getD default).gen.length ≤ 30 ∧ (C[j]?.getD default).kill.length ≤ 30)
        (fun i _ => nC - (intOf i).toNat)
      case atStart => exact ⟨0, Nat.zero_le _, rfl, by trivial, fun j hj => absurd hj (by omega)⟩
      case round =>
        obtain ⟨q, hq, rfl, rfl, hno⟩ := hrel
        by_cases hlq : q < nC
        · obtain ⟨hB, hC, hn0, hL, hnC⟩ := HA.out
          obtain ⟨bl, off, rfl, hbl, hrow⟩ := (hC.below HW.out.1 hn0) (by omega)
          obtain ⟨-, -, ⟨v3, c3, o3, k3, rfl, -⟩, v4, c4, o4, k4, rfl, -⟩ := hrow q (by omega)
          obtain ⟨a, ha⟩ : ∃ a, a = (C[q]?.getD default).gen.length := ⟨_, rfl⟩
          obtain ⟨b, hb⟩ : ∃ b, b = (C[q]?.getD default).kill.length := ⟨_, rfl⟩
          rw [← ha] at c3
          rw [← hb] at c4
          have HB := Lib.hid (And.intro hno (And.intro ha hb))
          clear hno ha hb hB hC hn0 hL hnC hrow
          by_cases g1 : 30 < a
          · go_wp2
            go_ret
            exact ⟨HW.out.1, true, rfl, fun h => by cases h⟩
          by_cases g2 : 30 < b
          · go_wp2
            go_ret
            exact ⟨HW.out.1, true, rfl, fun h => by cases h⟩
          go_wp2
          go_roundw
          case rel =>
            obtain ⟨hno, ha, hb⟩ := HB.out
            refine ⟨q + 1, by omega, by simp, by trivial, fun j hj => ?_⟩
            by_cases e : j = q
            · subst e
              exact ⟨by omega, by omega⟩
            · exact hno j (by omega)
          case measure => simp [intOf]; omega
        · obtain rfl : q = nC := by omega
          have HQ := Lib.hid hno
          clear hno
          go_wp2
          go_ret
          obtain ⟨hB, hC, hn0, hL, hnC⟩ := HA.out
          exact ⟨HW.out.1, false, rfl, fun _ => ⟨by omega, by have := H2.out; omega, by omega, by rw [← hL]; exact HN.out, by rw [← hnC]; exact HQ.out⟩⟩
end Go.Proofs.Ytfpdecjlfnambaa
