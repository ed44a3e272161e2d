/-
  The document's own Reserved. No conditions.
-/
import Derived.Test.YtgogdcpgfmndnaaGreatDoorNRes
import Derived.Deep.Cut
namespace Go.Proofs.YtgogdcpgfmndnaaGreatDoor
open Go.RowKit

def resV : Array Value := #[.string ⟨#[115, 116, 114, 117, 99, 116]⟩, .string ⟨#[101, 110, 117, 109]⟩, .string ⟨#[99, 111]⟩, .string ⟨#[108, 101, 116]⟩, .string ⟨#[105, 102]⟩, .string ⟨#[101, 108, 115, 101]⟩, .string ⟨#[119, 104, 105, 108, 101]⟩, .string ⟨#[109, 97, 116, 99, 104]⟩, .string ⟨#[121, 105, 101, 108, 100]⟩, .string ⟨#[114, 101, 116, 117, 114, 110]⟩, .string ⟨#[112, 114, 105, 110, 116]⟩, .string ⟨#[100, 114, 111, 112]⟩, .string ⟨#[98, 111, 120]⟩, .string ⟨#[117, 110, 98, 111, 120]⟩, .string ⟨#[115, 116, 97, 114, 116]⟩, .string ⟨#[97, 119, 97, 105, 116]⟩, .string ⟨#[112, 111, 108, 108]⟩, .string ⟨#[119, 97, 105, 116]⟩, .string ⟨#[109, 117, 116]⟩, .string ⟨#[105, 110, 116]⟩]

theorem resV_eq : resV = (resL.map fun l => Value.string (strB l)).toArray := rfl

set_option maxRecDepth 100000 in
set_option maxHeartbeats 2000000 in
theorem rreserved_any (s : ByteArray) (w : World) : Calls Tryz.prog 64 #[.string s] w fun e w' => e = .returned (.bool (resB (bs s))) ∧ Below w.heap.size w w' := by
  have hW := heap_alloc_new w (.cells #[.string ⟨#[115, 116, 114, 117, 99, 116]⟩, .string ⟨#[101, 110, 117, 109]⟩, .string ⟨#[99, 111]⟩, .string ⟨#[108, 101, 116]⟩, .string ⟨#[105, 102]⟩, .string ⟨#[101, 108, 115, 101]⟩, .string ⟨#[119, 104, 105, 108, 101]⟩, .string ⟨#[109, 97, 116, 99, 104]⟩, .string ⟨#[121, 105, 101, 108, 100]⟩, .string ⟨#[114, 101, 116, 117, 114, 110]⟩, .string ⟨#[112, 114, 105, 110, 116]⟩, .string ⟨#[100, 114, 111, 112]⟩, .string ⟨#[98, 111, 120]⟩, .string ⟨#[117, 110, 98, 111, 120]⟩, .string ⟨#[115, 116, 97, 114, 116]⟩, .string ⟨#[97, 119, 97, 105, 116]⟩, .string ⟨#[112, 111, 108, 108]⟩, .string ⟨#[119, 97, 105, 116]⟩, .string ⟨#[109, 117, 116]⟩, .string ⟨#[105, 110, 116]⟩] 9)
  have hB := alloc_below w (.cells #[.string ⟨#[115, 116, 114, 117, 99, 116]⟩, .string ⟨#[101, 110, 117, 109]⟩, .string ⟨#[99, 111]⟩, .string ⟨#[108, 101, 116]⟩, .string ⟨#[105, 102]⟩, .string ⟨#[101, 108, 115, 101]⟩, .string ⟨#[119, 104, 105, 108, 101]⟩, .string ⟨#[109, 97, 116, 99, 104]⟩, .string ⟨#[121, 105, 101, 108, 100]⟩, .string ⟨#[114, 101, 116, 117, 114, 110]⟩, .string ⟨#[112, 114, 105, 110, 116]⟩, .string ⟨#[100, 114, 111, 112]⟩, .string ⟨#[98, 111, 120]⟩, .string ⟨#[117, 110, 98, 111, 120]⟩, .string ⟨#[115, 116, 97, 114, 116]⟩, .string ⟨#[97, 119, 97, 105, 116]⟩, .string ⟨#[112, 111, 108, 108]⟩, .string ⟨#[119, 97, 105, 116]⟩, .string ⟨#[109, 117, 116]⟩, .string ⟨#[105, 110, 116]⟩] 9)
  go_enter Tryz.func64, Tryz.ntmps64
  go_upto_region 2 with fail
  generalize hb0 : w.heap.size = b at hW hB ⊢
  generalize w.alloc (.cells #[.string ⟨#[115, 116, 114, 117, 99, 116]⟩, .string ⟨#[101, 110, 117, 109]⟩, .string ⟨#[99, 111]⟩, .string ⟨#[108, 101, 116]⟩, .string ⟨#[105, 102]⟩, .string ⟨#[101, 108, 115, 101]⟩, .string ⟨#[119, 104, 105, 108, 101]⟩, .string ⟨#[109, 97, 116, 99, 104]⟩, .string ⟨#[121, 105, 101, 108, 100]⟩, .string ⟨#[114, 101, 116, 117, 114, 110]⟩, .string ⟨#[112, 114, 105, 110, 116]⟩, .string ⟨#[100, 114, 111, 112]⟩, .string ⟨#[98, 111, 120]⟩, .string ⟨#[117, 110, 98, 111, 120]⟩, .string ⟨#[115, 116, 97, 114, 116]⟩, .string ⟨#[97, 119, 97, 105, 116]⟩, .string ⟨#[112, 111, 108, 108]⟩, .string ⟨#[119, 97, 105, 116]⟩, .string ⟨#[109, 117, 116]⟩, .string ⟨#[105, 110, 116]⟩] 9) = W at hW hB ⊢
  have hbl := (Array.getElem?_eq_some_iff.1 hW).1
  have hc : ∀ (j : Nat) (x : List UInt8), resL[j]? = some x → W.cell? ⟨b, j, none⟩ = some (.string (strB x)) := fun j x hx => by
    have h1 : resV[j]? = some (.string (strB x)) := by rw [resV_eq, List.getElem?_toArray, List.getElem?_map, hx]; rfl
    simp only [World.cell?, hW]
    exact h1
  have HC := Lib.hid hc
  have HB := Lib.hid (show Below w.heap.size w W by rw [hb0]; exact hB)
  clear hc hW hB
  go_wp2_with fail
  go_loopw [4] (fun u wr => ∃ j : Nat, j ≤ 20 ∧ u = .int .i64 j ∧ (∀ (i : Nat) (x : List UInt8), i < j → resL[i]? = some x → bs s ≠ x) ∧ wr = W) (fun u _ => 20 - (intOf u).toNat)
  case atStart => exact ⟨0, by omega, rfl, fun i x hi => by omega, rfl⟩
  case round =>
    obtain ⟨j, hj, rfl, hno, rfl⟩ := hrel
    have HNO := Lib.hid hno
    clear hno
    by_cases hj4 : j < 20
    · obtain ⟨x, hx⟩ : ∃ x, resL[j]? = some x := ⟨_, List.getElem?_eq_getElem (show j < resL.length from hj4)⟩
      have hcx := HC.out j x hx
      have hmem := Lib.hid (List.mem_of_getElem? hx)
      have HXJ := Lib.hid hx
      clear hx
      by_cases he : (strB x).toList = s.toList
      · have t2 : ((strB x).toList == s.toList) = true := by simpa using he
        have hin := Lib.hid (show resB (bs s) = true by
          have : bs s = x := by rw [← strB_bs x]; rw [Lib.toList_data, Lib.toList_data] at he; exact he.symm
          rw [resB, this]; exact decide_eq_true hmem.out)
        clear he
        go_wp2
        go_ret
        exact ⟨by rw [hin.out]; rfl, HB.out⟩
      · have HE := Lib.hid he
        have t2 : ((strB x).toList == s.toList) = false := by simpa using he
        clear he
        go_wp2
        go_roundw
        case rel =>
          refine ⟨j + 1, by omega, by go_num, fun i y hi hy => ?_, by trivial⟩
          by_cases hij : i = j
          · subst hij
            have := HXJ.out
            rw [hy] at this
            cases this
            intro h
            exact HE.out (by rw [Lib.toList_data, Lib.toList_data]; exact (h.trans (strB_bs _).symm).symm)
          · exact HNO.out i y (by omega) hy
        case measure => simp [intOf]; omega
    · obtain rfl : j = 20 := by omega
      have hin := Lib.hid (show resB (bs s) = false by
        rw [resB]
        refine decide_eq_false fun h => ?_
        obtain ⟨i, hi⟩ := List.getElem?_of_mem h
        exact HNO.out i _ (List.getElem?_eq_some_iff.1 hi).1 hi rfl)
      go_wp2
      go_ret
      exact ⟨by rw [hin.out]; rfl, HB.out⟩
end Go.Proofs.YtgogdcpgfmndnaaGreatDoor
