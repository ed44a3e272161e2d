/-
  The document's own sign. Conditions: the place is in the text.
-/
import Derived.Test.YthhkndnmeafanaaDoorLRefD
import Derived.Deep.Cut
import Derived.Deep.QuietTactic
import Derived.BigQuiet
namespace Go.Proofs.YthhkndnmeafanaaDoor
open Go.RowKit

def signL : List (List UInt8) := [[58, 58], [61, 61], [61, 62], [45, 62], [123], [125], [40], [41], [44], [59], [58], [46], [42], [38], [61], [43], [45], [60]]
def signV : Array Value := #[.string ⟨#[58, 58]⟩, .string ⟨#[61, 61]⟩, .string ⟨#[61, 62]⟩, .string ⟨#[45, 62]⟩, .string ⟨#[123]⟩, .string ⟨#[125]⟩, .string ⟨#[40]⟩, .string ⟨#[41]⟩, .string ⟨#[44]⟩, .string ⟨#[59]⟩, .string ⟨#[58]⟩, .string ⟨#[46]⟩, .string ⟨#[42]⟩, .string ⟨#[38]⟩, .string ⟨#[61]⟩, .string ⟨#[43]⟩, .string ⟨#[45]⟩, .string ⟨#[60]⟩]
theorem signV_eq : signV = (signL.map fun l => Value.string (strB l)).toArray := rfl

theorem signs_any (w : World) : Calls Tryd.prog 37 #[] w fun e w' => e = .returned (.slice (some ⟨w.heap.size, 0, none⟩) 18 18) ∧ w' = w.alloc (.cells signV 9) := by
  go_enter Tryd.func37, Tryd.ntmps37
  go_wp2
  go_ret
  exact ⟨rfl, rfl⟩

theorem signL_len : ∀ k : Fin 18, (signL.getD k.val []).length = if k.val < 4 then 2 else 1 := by decide
theorem signL_long : ∀ k : Fin 18, (k.val < 4 → signL.getD k.val [] ∈ longL) ∧ (4 ≤ k.val → ∃ d ∈ shortL, signL.getD k.val [] = [d]) := by decide
theorem longL_at : ∀ x ∈ longL, x.length = 2 ∧ ∃ k : Fin 18, k.val < 4 ∧ signL[k.val]? = some x := by decide
theorem shortL_at : ∀ d ∈ shortL, ∃ k : Fin 18, signL[k.val]? = some [d] := by decide

theorem sign_hit {c : UInt8} {r : List UInt8} {j : Nat} {x : List UInt8} (hj : signL[j]? = some x) (hx : (c :: r).take x.length = x) (hno : ∀ (i : Nat) (y : List UInt8), i < j → signL[i]? = some y → (c :: r).take y.length ≠ y) : (c :: r).take (signN (c :: r)) = x := by
  have hj18 : j < 18 := (List.getElem?_eq_some_iff.1 hj).1
  have hg : signL.getD j [] = x := by rw [List.getD_eq_getElem?_getD, hj]; rfl
  have h := signL_long ⟨j, hj18⟩
  simp only [hg] at h
  by_cases h4 : j < 4
  · have hl := h.1 h4
    have h2 := (longL_at x hl).1
    rw [h2] at hx
    have : signN (c :: r) = 2 := by unfold signN; rw [hx, if_pos hl]
    rw [this, hx]
  · obtain ⟨d, hd, rfl⟩ := h.2 (by omega)
    have hc : c = d := by simpa using hx
    have hnl : (c :: r).take 2 ∉ longL := fun hin => by
      obtain ⟨h2, k, hk4, hk⟩ := longL_at _ hin
      exact hno k.val _ (by omega) hk (by rw [h2])
    have : signN (c :: r) = 1 := by unfold signN; rw [if_neg hnl]; simp [hc, hd]
    rw [this, hc]
    rfl

theorem sign_none {c : UInt8} {r : List UInt8} (hno : ∀ (i : Nat) (y : List UInt8), i < 18 → signL[i]? = some y → (c :: r).take y.length ≠ y) : signN (c :: r) = 0 := by
  have hnl : (c :: r).take 2 ∉ longL := fun hin => by
    obtain ⟨h2, k, hk4, hk⟩ := longL_at _ hin
    exact hno k.val _ k.isLt hk (by rw [h2])
  unfold signN
  rw [if_neg hnl]
  by_cases hc : c ∈ shortL
  · obtain ⟨k, hk⟩ := shortL_at c hc
    exact absurd rfl (hno k.val _ k.isLt hk)
  · simp [hc]

set_option maxRecDepth 100000 in
set_option maxHeartbeats 4000000 in
theorem rsign_any (s : ByteArray) (hs : s.size ≤ 65536) (p : Nat) (hp : p < s.size) (w : World) :
    Calls Tryd.prog 24 #[.string s, .int .i64 p] w fun e w' => e = .returned (.string (strB (((bs s).drop p).take (signN ((bs s).drop p))))) ∧ Below w.heap.size w w' := by
  obtain ⟨c, r, h1, h2, h3⟩ := byte_at s p hp
  have hW := heap_alloc_new w (.cells signV 9)
  have hB := alloc_below w (.cells signV 9)
  obtain ⟨out, hout⟩ : ∃ out, out = strB (((bs s).drop p).take (signN ((bs s).drop p))) := ⟨_, rfl⟩
  rw [← hout]
  rw [h1] at hout
  have HO := Lib.hid hout
  have H1 := Lib.hid h1
  have hsg := Lib.hid (signs_any w)
  clear hout h1 h2 h3
  go_enter Tryd.func24, Tryd.ntmps24
  go_wp2_with fail
  refine hsg.out.mono ?_
  rintro e w1 ⟨rfl, hw1⟩
  rw [← hw1] at hW hB
  obtain ⟨b, hb⟩ : ∃ b, b = w.heap.size := ⟨_, rfl⟩
  rw [← hb] at hW
  simp only [← hb]
  clear hw1 hb hsg
  have hc : ∀ (j : Nat) (x : List UInt8), signL[j]? = some x → w1.cell? ⟨b, j, none⟩ = some (.string (strB x)) := fun j x hx => by
    have e1 : signV[j]? = some (.string (strB x)) := by rw [signV_eq, List.getElem?_toArray, List.getElem?_map, hx]; rfl
    simp only [World.cell?, hW]
    exact e1
  have HC := Lib.hid hc
  have HB := Lib.hid hB
  clear hc hW hB
  go_wp2_with fail
  go_loopw [6] (fun u wr => ∃ j : Nat, j ≤ 18 ∧ u = .int .i64 j ∧ (∀ (i : Nat) (y : List UInt8), i < j → signL[i]? = some y → (c :: r).take y.length ≠ y) ∧ ∃ q, wr = w1.drewN q) (fun u _ => 18 - (intOf u).toNat)
  case atStart => exact ⟨0, by omega, rfl, fun i x hi => by omega, 0, rfl⟩
  case round =>
    obtain ⟨j, hj, rfl, hno, q, rfl⟩ := hrel
    have HNO := Lib.hid hno
    clear hno
    by_cases hj4 : j < 18
    · obtain ⟨x, hx⟩ : ∃ x, signL[j]? = some x := ⟨_, List.getElem?_eq_getElem (show j < signL.length from hj4)⟩
      have hcx : w1.cell? ⟨b, j, none⟩ = some (.string (strB x)) := HC.out j x hx
      have hxl : x.length = 1 ∨ x.length = 2 := by
        have h := signL_len ⟨j, hj4⟩
        have hg : signL.getD j [] = x := by rw [List.getD_eq_getElem?_getD, hx]; rfl
        simp only [hg] at h
        split at h <;> simp [h]
      obtain ⟨m, hm⟩ : ∃ m, m = x.length := ⟨_, rfl⟩
      have hsz : (strB x).size = m := by rw [strB_size, hm]
      rw [← hm] at hxl
      have HXJ := Lib.hid hx
      have HM := Lib.hid hm
      have hrl : (bs s).length - p = r.length + 1 := by rw [← List.length_drop, H1.out]; rfl
      rw [bs_len] at hrl
      clear hx hm
      by_cases hfit : m ≤ s.size - p
      · have t1 : decide ((s.size : Int) - p ≥ m) = true := by simp; omega
        have hpm : p + m ≤ s.size := by omega
        have hex : s.extract p (p + m) = strB ((c :: r).take m) := by rw [extract_strB, Nat.add_sub_cancel_left, H1.out]
        by_cases he : (c :: r).take m = x
        · have hso := Lib.hid (show out = strB x by rw [HO.out, sign_hit HXJ.out (by rw [← HM.out]; exact he) HNO.out])
          have hex2 : s.extract p (p + m) = strB x := by rw [hex, he]
          clear he hex
          go_wp2_with fail
          go_region
          go_wp2_with fail
          go_ret
          exact ⟨by rw [hso.out]; rfl, below_drewN HB.out _⟩
        · have HNX := Lib.hid (show (c :: r).take x.length ≠ x by rw [← HM.out]; exact he)
          have t2 : ((strB ((c :: r).take m)).toList == (strB x).toList) = false := by
            rw [Lib.toList_data, Lib.toList_data, show (strB x).data.toList = x from strB_bs _, show (strB ((c :: r).take m)).data.toList = (c :: r).take m from strB_bs _]
            simpa using he
          have t3 : ¬ (strB ((c :: r).take m)).toList = (strB x).toList := by simpa using t2
          generalize strB ((c :: r).take m) = Y at hex t2 t3
          clear he
          go_wp2_with fail
          go_region
          go_wp2_with fail
          go_roundw
          case rel =>
            refine ⟨j + 1, by omega, by go_num, fun i y hi hy => ?_, q + 1, by first | rfl | trivial⟩
            by_cases hij : i = j
            · subst hij
              have := HXJ.out
              rw [hy] at this
              cases this
              exact HNX.out
            · exact HNO.out i y (by omega) hy
          case measure => simp [intOf]; omega
      · have t1 : decide ((s.size : Int) - p ≥ m) = false := by simp; omega
        have HNX := Lib.hid (show (c :: r).take x.length ≠ x by
          intro h
          have h5 := congrArg List.length h
          rw [List.length_take, List.length_cons, ← HM.out] at h5
          omega)
        go_wp2_with fail
        go_region
        go_wp2_with fail
        go_roundw
        case rel =>
          refine ⟨j + 1, by omega, by go_num, fun i y hi hy => ?_, q + 1, by first | rfl | trivial⟩
          by_cases hij : i = j
          · subst hij
            have := HXJ.out
            rw [hy] at this
            cases this
            exact HNX.out
          · exact HNO.out i y (by omega) hy
        case measure => simp [intOf]; omega
    · obtain rfl : j = 18 := by omega
      have hso := Lib.hid (show out = ⟨#[]⟩ by rw [HO.out, sign_none HNO.out]; rfl)
      go_wp2_with fail
      go_ret
      exact ⟨by rw [hso.out]; rfl, below_drewN HB.out _⟩
end Go.Proofs.YthhkndnmeafanaaDoor
