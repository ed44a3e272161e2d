/-
  Reserved of lexis. Conditions: the package variable lies as the program's text lays it.
-/
import Derived.Test.YtgogdcpgfmndnaaGreatDoorNWord
namespace Go.Proofs.YtgogdcpgfmndnaaGreatDoor
open Go.RowKit

def resB (l : List UInt8) : Bool := decide (l ∈ resL)

theorem idx164 (V : Array Value) (j : Nat) (hj : j < 20) (v : Value) (h : V[j]? = some v) (W : World) : (Instr.index 164 (.agg V) (.int .i64 j)).run Tryz.prog W = .ok v W := by
  simp [Instr.index, run_underlying Tryz.underlying164, asIntOf, go_sem, h]
  intro h
  omega

theorem info164 : (Tryz.prog.info? 164).map (·.size) = some 20 := by kernel_rfl

set_option maxRecDepth 100000 in
set_option maxHeartbeats 2000000 in
theorem reserved_walk (X : Nat → ByteArray) (A : Array Value) (hA : A.size = 20) (s : ByteArray) (w : World) (hX : ∀ k, k < 20 → A[k]? = some (.string (X k))) (t : TypeId) (fr : Nat × Nat) (hrow : w.heap[1]? = some (.cells A t fr)) :
    Calls Tryz.prog 119 #[.string s] w fun e w' => (∃ b, e = .returned (.bool b) ∧ (b = true ↔ ∃ k, k < 20 ∧ s.toList = (X k).toList)) ∧ w' = w := by
  have hxi : ∀ j : Nat, j < 20 → ∀ W, (Instr.index 164 (.agg A) (.int .i64 j)).run Tryz.prog W = .ok (.string (X j)) W := fun j hj => idx164 _ j hj (.string (X j)) (hX j hj)
  replace hxi := Lib.hid hxi
  have HA := Lib.hid (show (Tryz.prog.info? 164).map (·.size) = some A.size by rw [hA]; exact info164)
  clear hX hA
  replace hrow := Lib.hid hrow
  go_enter Tryz.func119, Tryz.ntmps119
  go_wp2_with (refine wpList_load_row rfl 164 (.global 1) rfl 1 rfl t A fr _ hrow.out Tryz.underlying164 rfl HA.out ?_)
  go_loopw [6] (fun u wr => ∃ j : Nat, j ≤ 20 ∧ u = .int .i64 j ∧ (∀ i : Nat, i < j → s.toList ≠ (X i).toList) ∧ wr = w) (fun u _ => 20 - (intOf u).toNat)
  case atStart => exact ⟨0, by omega, rfl, fun i hi => by omega, rfl⟩
  case round =>
    obtain ⟨j, hj, rfl, hno, rfl⟩ := hrel
    have HNO := Lib.hid hno
    clear hno
    by_cases hj4 : j < 20
    · have t1 : decide ((j : Int) < 20) = true := by simp; omega
      have hx := hxi.out j hj4
      by_cases he : s.toList = (X j).toList
      · have hin := Lib.hid (show ∃ k, k < 20 ∧ s.toList = (X k).toList from ⟨j, hj4, he⟩)
        go_wp2
        go_ret
        exact ⟨⟨true, rfl, fun _ => hin.out, fun _ => rfl⟩, rfl⟩
      · have HE := Lib.hid he
        have t2 : (s.toList == (X j).toList) = false := by simpa using he
        clear he
        go_wp2
        go_roundw
        case rel =>
          refine ⟨j + 1, by omega, by go_num, fun i hi => ?_, by trivial⟩
          by_cases hij : i = j
          · subst hij
            exact HE.out
          · exact HNO.out i (by omega)
        case measure => simp [intOf]; omega
    · obtain rfl : j = 20 := by omega
      go_wp2
      go_ret
      exact ⟨⟨false, rfl, fun h => by (cases h), fun ⟨k, hk, h⟩ => absurd h (HNO.out k hk)⟩, rfl⟩

theorem reserved_any (s : ByteArray) (w : World) (hV : ∃ t fr, w.heap[1]? = some (.cells (resL.map fun l => Value.string (strB l)).toArray t fr)) : Calls Tryz.prog 119 #[.string s] w fun e w' => e = .returned (.bool (resB (bs s))) ∧ w' = w := by
  obtain ⟨t, fr, hrow⟩ := hV
  refine (reserved_walk (fun k => strB (resL.getD k [])) (resL.map fun l => Value.string (strB l)).toArray (by simp [resL]) s w (fun k hk => by
    have hk' : k < resL.length := hk
    rw [List.getElem?_toArray, List.getElem?_map, List.getElem?_eq_getElem hk', Option.map_some, List.getD_eq_getElem?_getD, List.getElem?_eq_getElem hk']; rfl) t fr hrow).mono ?_
  rintro e w' ⟨⟨b, rfl, hb⟩, rfl⟩
  refine ⟨?_, rfl⟩
  have : b = resB (bs s) := by
    rw [Bool.eq_iff_iff, hb, resB, decide_eq_true_eq, List.mem_iff_getElem?]
    simp only [Lib.toList_data]
    constructor
    · rintro ⟨k, hk, h⟩
      have hk' : k < resL.length := hk
      refine ⟨k, ?_⟩
      rw [show (strB (resL.getD k [])).data.toList = resL.getD k [] from strB_bs _] at h
      rw [show bs s = resL.getD k [] from h, List.getD_eq_getElem?_getD, List.getElem?_eq_getElem hk']
      rfl
    · rintro ⟨k, hk⟩
      refine ⟨k, (List.getElem?_eq_some_iff.1 hk).1, ?_⟩
      rw [show (strB (resL.getD k [])).data.toList = resL.getD k [] from strB_bs _, List.getD_eq_getElem?_getD, hk]
      rfl
  rw [this]
end Go.Proofs.YtgogdcpgfmndnaaGreatDoor
