/-
  String of a writer that may hold nothing. Conditions: the block is a writer.
-/
import Derived.Test.YtgogdcpgfmndnaaGreatDoorTPlace
namespace Go.Proofs.YtgogdcpgfmndnaaGreatDoor
open Go.RowKit

theorem uString_zero {W : World} (p : Option Addr) : (Builtin.unsafeString_ #[131, 3] 9 #[.pointer p, .int .i64 0]).run Tryz.prog W = .ok (.string ⟨#[]⟩) W := Lib.run_unsafeString_none _ _ _ _ p

set_option maxHeartbeats 2000000 in
set_option maxRecDepth 100000 in
theorem string3_nil (x p : Value) (B b : Nat) (w : World) (hbk : w.heap[b]? = some (.cells #[p, .slice none 0 0, x] 96 (0, 0))) :
    Calls Tryz.prog 53 #[.pointer (some ⟨b, 0, none⟩)] w fun e w' => e = .returned (.string ⟨#[]⟩) ∧ Below B w w' := by
  have hUS := @uString_zero w.drew none
  have c1 : w.drew.cell? ⟨b, 1, none⟩ = some (.slice none 0 0) := by
    have : w.drew.heap[b]? = some (.cells #[p, .slice none 0 0, x] 96 (0, 0)) := hbk
    rw [Lib.cell_of_heap this]; rfl
  have c2 : w.cell? ⟨b, 1, none⟩ = some (.slice none 0 0) := c1
  have hSD : (Builtin.unsafeSliceData_ #[92] 131 #[.slice none 0 0]).run Tryz.prog w.drew = .ok (.pointer none) w.drew := rfl
  have hfin := Lib.hid (Below.drew (Below.refl B w))
  clear hbk
  go_enter Tryz.func53, Tryz.ntmps53
  go_wp2
  go_region
  all_goals (go_wp2; go_ret; exact ⟨rfl, hfin.out⟩)

set_option maxHeartbeats 2000000 in
set_option maxRecDepth 100000 in
theorem string3_room (x p : Value) (B b g cap : Nat) (hc0 : cap ≠ 0) (w : World) (hbk : w.heap[b]? = some (.cells #[p, .slice (some ⟨g, 0, none⟩) 0 cap, x] 96 (0, 0))) :
    Calls Tryz.prog 53 #[.pointer (some ⟨b, 0, none⟩)] w fun e w' => e = .returned (.string ⟨#[]⟩) ∧ Below B w w' := by
  have hUS := @uString_zero w.drew (some ⟨g, 0, none⟩)
  have c1 : w.drew.cell? ⟨b, 1, none⟩ = some (.slice (some ⟨g, 0, none⟩) 0 cap) := by
    have : w.drew.heap[b]? = some (.cells #[p, .slice (some ⟨g, 0, none⟩) 0 cap, x] 96 (0, 0)) := hbk
    rw [Lib.cell_of_heap this]; rfl
  have c2 : w.cell? ⟨b, 1, none⟩ = some (.slice (some ⟨g, 0, none⟩) 0 cap) := c1
  have hSD : (Builtin.unsafeSliceData_ #[92] 131 #[.slice (some ⟨g, 0, none⟩) 0 cap]).run Tryz.prog w.drew = .ok (.pointer (some ⟨g, 0, none⟩)) w.drew := Lib.run_unsafeSliceData_row _ _ _ _ _ _ hc0
  have hfin := Lib.hid (Below.drew (Below.refl B w))
  clear hbk hc0
  go_enter Tryz.func53, Tryz.ntmps53
  go_wp2
  go_region
  all_goals (go_wp2; go_ret; exact ⟨rfl, hfin.out⟩)

set_option maxHeartbeats 2000000 in
set_option maxRecDepth 100000 in
theorem string3_noroom (x p : Value) (B b g : Nat) (cur : Array Value) (fz : Nat × Nat) (w : World) (hBw : B ≤ w.heap.size) (hg : w.heap[g]? = some (.cells cur 5 fz)) (hbk : w.heap[b]? = some (.cells #[p, .slice (some ⟨g, 0, none⟩) 0 0, x] 96 (0, 0))) :
    Calls Tryz.prog 53 #[.pointer (some ⟨b, 0, none⟩)] w fun e w' => e = .returned (.string ⟨#[]⟩) ∧ Below B w w' := by
  have hUS := @uString_zero ((w.alloc (.view ⟨g, 0, none⟩ 5)).drew) (some ⟨w.heap.size, 0, none⟩)
  have hlt : b < w.heap.size := by
    rcases Nat.lt_or_ge b w.heap.size with h' | h'
    · exact h'
    · simp [Array.getElem?_eq_none h'] at hbk
  have c1 : w.drew.cell? ⟨b, 1, none⟩ = some (.slice (some ⟨g, 0, none⟩) 0 0) := by
    have : w.drew.heap[b]? = some (.cells #[p, .slice (some ⟨g, 0, none⟩) 0 0, x] 96 (0, 0)) := hbk
    rw [Lib.cell_of_heap this]; rfl
  have hSD : (Builtin.unsafeSliceData_ #[92] 131 #[.slice (some ⟨g, 0, none⟩) 0 0]).run Tryz.prog w.drew = .ok (.pointer (some ⟨w.drew.heap.size, 0, none⟩)) (w.drew.alloc (.view ⟨g, 0, none⟩ 5)) :=
    Lib.run_unsafeSliceData_zero w.drew _ _ 5 Tryz.underlying131 ⟨g, 0, none⟩ 0 (5, cur.size) (by have hg' : w.drew.heap[g]? = some (.cells cur 5 fz) := hg; simp [World.shape?, hg'])
  have c2 : (w.drew.alloc (.view ⟨g, 0, none⟩ 5)).cell? ⟨b, 1, none⟩ = some (.slice (some ⟨g, 0, none⟩) 0 0) := by
    have : (w.drew.alloc (.view ⟨g, 0, none⟩ 5)).heap[b]? = _ := (Lib.alloc_old w.drew _ b hlt).trans hbk
    rw [Lib.cell_of_heap this]; rfl
  have c3 : (w.alloc (.view ⟨g, 0, none⟩ 5)).drew.cell? ⟨b, 1, none⟩ = some (.slice (some ⟨g, 0, none⟩) 0 0) := c2
  have c0 : w.cell? ⟨b, 1, none⟩ = some (.slice (some ⟨g, 0, none⟩) 0 0) := c1
  have hfin := Lib.hid ((Below.drew (Below.refl B w)).alloc hBw (.view ⟨g, 0, none⟩ 5))
  clear hbk hg hlt
  go_enter Tryz.func53, Tryz.ntmps53
  go_wp2
  go_region
  all_goals (go_wp2; go_ret; exact ⟨rfl, hfin.out⟩)

/-- What a writer holds, also if it holds nothing. -/
theorem string3_all (x : Value) (B b : Nat) (l : List UInt8) (w : World) (hBw : B ≤ w.heap.size) (h : IsB3 x B b (Lib.byteCells l) w) :
    Calls Tryz.prog 53 #[.pointer (some ⟨b, 0, none⟩)] w fun e w' => e = .returned (.string (strB l)) ∧ Below B w w' := by
  by_cases h0 : l = []
  · subst h0
    obtain ⟨p, hAt⟩ : ∃ p, B3At x B b p (Lib.byteCells []) w := h.elim (fun h => ⟨_, h⟩) (fun h => ⟨_, h⟩)
    obtain ⟨hB, v, hbk, hown, hne⟩ := hAt
    rcases hown.2 with ⟨rfl, _⟩ | ⟨g, cap, cur, fz, rfl, hbg, hg, _⟩
    · exact string3_nil x p B b w hbk
    · by_cases hc0 : cap = 0
      · subst hc0
        exact string3_noroom x p B b g cur fz w hBw hg hbk
      · exact string3_room x p B b g cap hc0 w hbk
  · exact string3_any x B b l h0 w h

end Go.Proofs.YtgogdcpgfmndnaaGreatDoor
