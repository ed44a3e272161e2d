/-
  lexis's looks at one byte, and behind: where a run of bytes ends. No conditions but on lengths.
-/
import Derived.Test.YtggdpgaedmegbaaGreatDoorRows
import Derived.Test.YtggdpgaedmegbaaGreatDoorJLNum
import Derived.WalkKit
import Derived.WalkSpells
import Derived.WalkLawsBesides
import Derived.Deep.QuietTactic
import Derived.BigQuiet
import Derived.Handy
import Derived.Lib.Hide
import Derived.Lib.Strings
import Derived.Lib.Walk
import Derived.Laws.Strings3
import Derived.Laws.Strings2
import Derived.BigCall
import Derived.BigGuard
import Derived.Deep.RegionHeld3
namespace Go.Proofs.YtggdpgaedmegbaaGreatDoor
open Go.RowKit

def smallB (c : UInt8) : Bool := decide (97 ≤ c.toNat ∧ c.toNat ≤ 122)
theorem small_any (c : UInt8) (w : World) : Calls Tryz.prog 186 #[.int .u8 c.toNat] w fun e w' => e = .returned (.bool (smallB c)) ∧ w' = w := by
  have e : smallB c = (decide ((c.toNat : Int) ≥ 97) && decide ((c.toNat : Int) ≤ 122)) := by rw [Bool.eq_iff_iff]; simp [smallB] <;> omega
  rw [e]
  clear e
  generalize (c.toNat : Int) = z
  cases t0 : decide (z ≥ 97) <;> cases t1 : decide (z ≤ 122)
  all_goals
    go_enter Tryz.func186, Tryz.ntmps186
    go_wp2
    go_ret
    exact ⟨by simp, rfl⟩
theorem great_any (c : UInt8) (w : World) : Calls Tryz.prog 187 #[.int .u8 c.toNat] w fun e w' => e = .returned (.bool (greatB c)) ∧ w' = w := by
  have e : greatB c = (decide ((c.toNat : Int) ≥ 65) && decide ((c.toNat : Int) ≤ 90)) := by rw [Bool.eq_iff_iff]; simp [greatB] <;> omega
  rw [e]
  clear e
  generalize (c.toNat : Int) = z
  cases t0 : decide (z ≥ 65) <;> cases t1 : decide (z ≤ 90)
  all_goals
    go_enter Tryz.func187, Tryz.ntmps187
    go_wp2
    go_ret
    exact ⟨by simp, rfl⟩
theorem digit_any (c : UInt8) (w : World) : Calls Tryz.prog 112 #[.int .u8 c.toNat] w fun e w' => e = .returned (.bool (digitB c)) ∧ w' = w := by
  have e : digitB c = (decide ((c.toNat : Int) ≥ 48) && decide ((c.toNat : Int) ≤ 57)) := by rw [Bool.eq_iff_iff]; simp [digitB] <;> omega
  rw [e]
  clear e
  generalize (c.toNat : Int) = z
  cases t0 : decide (z ≥ 48) <;> cases t1 : decide (z ≤ 57)
  all_goals
    go_enter Tryz.func112, Tryz.ntmps112
    go_wp2
    go_ret
    exact ⟨by simp, rfl⟩
theorem blank_any (c : UInt8) (w : World) : Calls Tryz.prog 107 #[.int .u8 c.toNat] w fun e w' => e = .returned (.bool (blankB c)) ∧ w' = w := by
  have e : blankB c = ((c.toNat : Int) == 32 || (c.toNat : Int) == 9 || (c.toNat : Int) == 10) := by rw [Bool.eq_iff_iff]; simp [blankB] <;> omega
  rw [e]
  clear e
  generalize (c.toNat : Int) = z
  cases t0 : (z == 32) <;> cases t1 : (z == 9) <;> cases t2 : (z == 10)
  all_goals
    go_enter Tryz.func107, Tryz.ntmps107
    go_wp2
    go_ret
    exact ⟨by simp, rfl⟩
theorem line_any (c : UInt8) (w : World) : Calls Tryz.prog 109 #[.int .u8 c.toNat] w fun e w' => e = .returned (.bool (lineB c)) ∧ w' = w := by
  have e : lineB c = ((c.toNat : Int) != 10) := by rw [Bool.eq_iff_iff]; simp [lineB, bne] <;> omega
  rw [e]
  clear e
  generalize (c.toNat : Int) = z
  cases t0 : (z != 10)
  all_goals
    go_enter Tryz.func109, Tryz.ntmps109
    go_wp2
    go_ret
    exact ⟨by simp, rfl⟩
theorem letterB_eq (c : UInt8) : letterB c = (smallB c || greatB c) := rfl
theorem letter_any (c : UInt8) (w : World) : Calls Tryz.prog 110 #[.int .u8 c.toNat] w fun e w' => e = .returned (.bool (letterB c)) ∧ w' = w := by
  have h1 := small_any c
  have h2 := great_any c
  rw [letterB_eq]
  generalize smallB c = b1 at h1 ⊢
  generalize greatB c = b2 at h2 ⊢
  replace h1 := Lib.hid h1
  replace h2 := Lib.hid h2
  cases b1
  all_goals
    go_enter Tryz.func110, Tryz.ntmps110
    go_wp2_with (first
      | (go_at_call 186; refine (h1.out _).mono ?_; rintro e w1 ⟨rfl, rfl⟩)
      | (go_at_call 187; refine (h2.out _).mono ?_; rintro e w1 ⟨rfl, rfl⟩))
    go_ret
    exact ⟨by simp, rfl⟩
theorem name_byte_any (c : UInt8) (w : World) : Calls Tryz.prog 252 #[.int .u8 c.toNat] w fun e w' => e = .returned (.bool (nameB c)) ∧ w' = w := by
  have h1 := letter_any c
  have h2 := digit_any c
  have e : nameB c = (letterB c || digitB c || ((c.toNat : Int) == 95)) := by
    have e3 : decide (c.toNat = 95) = ((c.toNat : Int) == 95) := by rw [Bool.eq_iff_iff]; simp <;> omega
    rw [nameB, e3]
  rw [e]
  clear e
  generalize letterB c = b1 at h1 ⊢
  generalize digitB c = b2 at h2 ⊢
  replace h1 := Lib.hid h1
  replace h2 := Lib.hid h2
  obtain ⟨z, hz⟩ : ∃ z : Int, z = (c.toNat : Int) := ⟨_, rfl⟩
  rw [← hz] at h1 h2 ⊢
  clear hz
  cases b1 <;> cases b2 <;> cases t : (z == 95)
  all_goals
    go_enter Tryz.func252, Tryz.ntmps252
    go_wp2_with (first
      | (go_at_call 110; refine (h1.out _).mono ?_; rintro e w1 ⟨rfl, rfl⟩)
      | (go_at_call 112; refine (h2.out _).mono ?_; rintro e w1 ⟨rfl, rfl⟩))
    go_ret
    exact ⟨by simp, rfl⟩
end Go.Proofs.YtggdpgaedmegbaaGreatDoor
