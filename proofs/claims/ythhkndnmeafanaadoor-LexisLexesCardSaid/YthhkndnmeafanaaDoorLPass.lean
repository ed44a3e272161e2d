/-
  pass and name of lexis. Conditions: the place is in the text.
-/
import Derived.Test.YthhkndnmeafanaaDoorLKit
import Derived.Test.YthhkndnmeafanaaDoorShelf
namespace Go.Proofs.YthhkndnmeafanaaDoor
open Go.RowKit

theorem hasPrefix_take (l p : List UInt8) : Lib.hasPrefix l p = decide (l.take p.length = p) := by
  rw [← Lib.hasPrefix_of_take, Bool.eq_iff_iff]
  simp only [Bool.and_eq_true, decide_eq_true_eq, beq_iff_eq]
  refine ⟨fun h => h.2, fun h => ⟨?_, h⟩⟩
  have := congrArg List.length h
  simp only [List.length_take] at this
  omega

theorem slashes_prefix (l : List UInt8) : Lib.hasPrefix l [47, 47] = slashes l := by
  rw [hasPrefix_take]; rfl

theorem drop_extract (s : ByteArray) (j : Nat) : bs (s.extract j s.size) = (bs s).drop j := by
  rw [bs, Lib.extract_data, List.take_of_length_le (by rw [List.length_drop, bs_len]; omega)]

set_option maxHeartbeats 1000000 in
theorem pass_any (s : ByteArray) (hs : s.size ≤ 4611686018427387904) (p : Nat) (hp : p ≤ s.size) (w : World) :
    Calls Tryd.prog 19 #[.string s, .int .i64 p] w fun e w' => e = .returned (.int .i64 ((p + passN false ((bs s).drop p) : Nat))) ∧ w' = w := by
  go_enter Tryd.func19, Tryd.ntmps19
  go_wp2_with fail
  go_loopw [1] (fun u wr => ∃ j : Nat, p ≤ j ∧ j ≤ s.size ∧ u = .int .i64 j ∧ j + passN false ((bs s).drop j) = p + passN false ((bs s).drop p) ∧ wr = w) (fun u _ => s.size - (intOf u).toNat)
  case atStart => exact ⟨p, by omega, by omega, rfl, rfl, rfl⟩
  case round =>
    obtain ⟨j, hpj, hj, rfl, hsp, rfl⟩ := hrel
    have hb := Lib.hid (behind_any s hs 29 blankB enters29 blank_any j hj)
    obtain ⟨j1, hj1⟩ : ∃ j1, j1 = j + spanN blankB ((bs s).drop j) := ⟨_, rfl⟩
    have hle := spanN_le blankB ((bs s).drop j)
    rw [List.length_drop, bs_len] at hle
    have hj1s : j1 ≤ s.size := by omega
    have hd : ((bs s).drop j).drop (spanN blankB ((bs s).drop j)) = (bs s).drop j1 := by rw [List.drop_drop, hj1]
    have hpb := passN_blanks ((bs s).drop j)
    rw [hd] at hpb
    rw [← hj1] at hb
    have hhead : ∀ c r, (bs s).drop j1 = c :: r → blankB c = false := fun c r h => spanN_head (l := (bs s).drop j) (by rw [hd]; exact h)
    have hpf := Lib.hid (Tryd.strings_HasPrefix (s.extract j1 s.size) ⟨#[47, 47]⟩)
    have hjj : j ≤ j1 := by omega
    have HS := Lib.hid (show j1 + passN false ((bs s).drop j1) = p + passN false ((bs s).drop p) by omega)
    have HH := Lib.hid hhead
    have hdx := drop_extract s j1
    have hpt : Lib.hasPrefix (s.extract j1 s.size).data.toList [47, 47] = slashes ((bs s).drop j1) := by rw [← hdx]; exact slashes_prefix _
    have hpr : Hid (∀ w, Calls Tryd.prog 30 #[.string (s.extract j1 s.size), .string ⟨#[47, 47]⟩] w fun e w' => e = .returned (.bool (slashes ((bs s).drop j1))) ∧ w' = w) := Lib.hid (by rw [← hpt]; exact hpf.out)
    clear hpf hpt hdx hpb hhead hd hle hj1 hsp
    cases hsl : slashes ((bs s).drop j1) with
    | false =>
      have HSL := Lib.hid hsl
      clear hsl
      go_wp2_with (first
        | (go_at_call 28; refine (hb.out _).mono ?_; rintro e w1 ⟨rfl, rfl⟩)
        | (go_at_call 30; refine (hpr.out _).mono ?_; rintro e w1 ⟨rfl, rfl⟩; rw [HSL.out]))
      go_ret
      refine ⟨?_, rfl⟩
      rw [← HS.out]
      have : passN false ((bs s).drop j1) = 0 := by
        cases hd : (bs s).drop j1 with
        | nil => rfl
        | cons c r => exact passN_zero (HH.out c r hd) (by rw [← hd]; exact HSL.out)
      rw [this]
      rfl
    | true =>
      have HSL := Lib.hid hsl
      have hl := Lib.hid (behind_any s hs 31 lineB enters31 line_any j1 hj1s)
      obtain ⟨j2, hj2⟩ : ∃ j2, j2 = j1 + spanN lineB ((bs s).drop j1) := ⟨_, rfl⟩
      have hle := spanN_le lineB ((bs s).drop j1)
      rw [List.length_drop, bs_len] at hle
      have hpm := passN_remark _ hsl
      rw [List.drop_drop, ← hj2] at hpm
      have hgt : j1 < j2 := by
        obtain ⟨r, hr⟩ := slashes_cons hsl
        rw [hr] at hj2
        simp [spanN, lineB] at hj2
        omega
      have hj2s : j2 ≤ s.size := by omega
      rw [← hj2] at hl
      have HS2 := Lib.hid (show j2 + passN false ((bs s).drop j2) = p + passN false ((bs s).drop p) by rw [← HS.out]; omega)
      clear hsl hle hpm hj2
      go_wp2_with (first
        | (go_at_call_of 28 (Value.int .i64 (j : Int)); refine (hb.out _).mono ?_; rintro e w1 ⟨rfl, rfl⟩)
        | (go_at_call 30; refine (hpr.out _).mono ?_; rintro e w1 ⟨rfl, rfl⟩; rw [HSL.out])
        | (go_at_call_of 28 (Value.int .i64 (j1 : Int)); refine (hl.out _).mono ?_; rintro e w1 ⟨rfl, rfl⟩))
      go_roundw
      case rel => exact ⟨j2, by omega, by omega, rfl, HS2.out, by trivial⟩
      case measure => simp [intOf]; omega
end Go.Proofs.YthhkndnmeafanaaDoor
