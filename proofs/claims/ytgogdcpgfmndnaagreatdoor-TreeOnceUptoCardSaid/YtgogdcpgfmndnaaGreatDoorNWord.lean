/-
  Word and Upper of lexis. No conditions.
-/
import Derived.Test.YtgogdcpgfmndnaaGreatDoorNByte
namespace Go.Proofs.YtgogdcpgfmndnaaGreatDoor
open Go.RowKit

set_option maxHeartbeats 2000000 in
theorem word_any (s : ByteArray) (w : World) : Calls Tryz.prog 118 #[.string s] w fun e w' => e = .returned (.bool (wordB (bs s))) ∧ w' = w := by
  obtain ⟨bw, hbw⟩ : ∃ bw, bw = wordB (bs s) := ⟨_, rfl⟩
  rw [← hbw]
  by_cases h0 : s = ⟨#[]⟩
  · have t0 : s.toList = [] := by rw [h0, Lib.toList_data]
    have hw := Lib.hid (show bw = false by rw [hbw, h0]; rfl)
    clear hbw h0
    go_enter Tryz.func118, Tryz.ntmps118
    go_wp2
    go_ret
    exact ⟨by rw [hw.out]; rfl, rfl⟩
  · have t0 : ¬ s.toList = [] := fun h => h0 (by rw [Lib.toList_data] at h; rw [← strB_of s, bs, h]; rfl)
    have t0' : s.toList.isEmpty = false := by simpa using t0
    have hpos : 0 < s.size := by
      rcases Nat.eq_zero_or_pos s.size with h | h
      · exact absurd (by
          have h1 := bs_len s
          rw [h] at h1
          have h2 := List.length_eq_zero_iff.1 h1
          rw [← strB_of s, h2]; rfl) h0
      · exact h
    obtain ⟨c, r, h1, h2, h3⟩ := byte_at s 0 hpos
    have hi : ∀ W, (Instr.index 9 (.string s) (.int .i64 0)).run Tryz.prog W = .ok (.int .u8 c.toNat) W := run_byte s 0 c hpos h3
    rw [List.drop_zero] at h1
    have hl : s.size = r.length + 1 := by rw [← bs_len, h1]; rfl
    rw [h1, wordB] at hbw
    by_cases h24 : s.size ≤ 24
    · have t1 : decide ((s.size : Int) ≤ 24) = true := by simp; omega
      rw [decide_eq_true (by omega), Bool.true_and] at hbw
      have hlet := Lib.hid (letter_any c)
      have hbn : ∀ w, Calls Tryz.prog 137 #[.string s, .int .i64 0] w fun e w' => e = .returned (.int .i64 ((0 + spanN nameB ((bs s).drop 0) : Nat))) ∧ w' = w := behindName_any s (by omega) 0 (by omega)
      cases hlc : letterB c with
      | true =>
        have HL := Lib.hid hlc
        have hsp : spanN nameB (bs s) = spanN nameB r + 1 := by rw [h1]; simp [spanN, nameB, hlc]
        rw [List.drop_zero, Nat.zero_add, hsp] at hbn
        replace hbn := Lib.hid hbn
        rw [hlc, Bool.true_and] at hbw
        have hw := Lib.hid (show bw = ((spanN nameB r : Int) + 1 == (r.length : Int) + 1) by rw [hbw, Bool.eq_iff_iff]; simp only [decide_eq_true_eq, beq_iff_eq]; omega)
        clear hbw h0 h1 h2 h3 hlc hsp
        go_enter Tryz.func118, Tryz.ntmps118
        go_wp2_with (first
          | (go_at_call 136; refine (hlet.out _).mono ?_; rintro e w1 ⟨rfl, rfl⟩; rw [HL.out])
          | (go_at_call 137; refine (hbn.out _).mono ?_; rintro e w1 ⟨rfl, rfl⟩))
        go_ret
        exact ⟨by rw [hw.out]; simp, rfl⟩
      | false =>
        have HL := Lib.hid hlc
        have hw := Lib.hid (show bw = false by rw [hbw, hlc]; rfl)
        clear hbw h0 h1 h2 h3 hlc hbn
        go_enter Tryz.func118, Tryz.ntmps118
        go_wp2_with (first
          | (go_at_call 136; refine (hlet.out _).mono ?_; rintro e w1 ⟨rfl, rfl⟩; rw [HL.out]))
        go_ret
        exact ⟨by rw [hw.out]; rfl, rfl⟩
    · have t1 : decide ((s.size : Int) ≤ 24) = false := by simp; omega
      have hw := Lib.hid (show bw = false by rw [hbw, decide_eq_false (by omega)]; rfl)
      clear hbw h0 h1 h2 h3
      go_enter Tryz.func118, Tryz.ntmps118
      go_wp2
      go_ret
      exact ⟨by rw [hw.out]; rfl, rfl⟩

theorem wordB_pos {s : ByteArray} (h : wordB (bs s) = true) : 0 < s.size := by
  rcases Nat.eq_zero_or_pos s.size with h0 | h0
  · have h1 := bs_len s
    rw [h0] at h1
    rw [List.length_eq_zero_iff.1 h1] at h
    cases h
  · exact h0

set_option maxHeartbeats 1000000 in
theorem upper_any (s : ByteArray) (w : World) : Calls Tryz.prog 100 #[.string s] w fun e w' => e = .returned (.bool (upperB (bs s))) ∧ w' = w := by
  obtain ⟨bw, hbw⟩ : ∃ bw, bw = upperB (bs s) := ⟨_, rfl⟩
  rw [← hbw]
  have hwd := Lib.hid (word_any s)
  cases hwb : wordB (bs s) with
  | false =>
    have HW := Lib.hid hwb
    have hw := Lib.hid (show bw = false by rw [hbw]; unfold upperB; rw [hwb]; rfl)
    clear hbw hwb
    go_enter Tryz.func100, Tryz.ntmps100
    go_wp2_with (go_at_call 118; refine (hwd.out _).mono ?_; rintro e w1 ⟨rfl, rfl⟩; rw [HW.out])
    go_ret
    exact ⟨by rw [hw.out]; rfl, rfl⟩
  | true =>
    have HW := Lib.hid hwb
    have hpos := wordB_pos hwb
    obtain ⟨c, r, h1, h2, h3⟩ := byte_at s 0 hpos
    have hi : ∀ W, (Instr.index 9 (.string s) (.int .i64 0)).run Tryz.prog W = .ok (.int .u8 c.toNat) W := run_byte s 0 c hpos h3
    rw [List.drop_zero] at h1
    have hw := Lib.hid (show bw = greatB c by rw [hbw]; unfold upperB; rw [hwb, h1]; rfl)
    have hgr := Lib.hid (great_any c)
    clear hbw hwb h1 h2 h3
    go_enter Tryz.func100, Tryz.ntmps100
    go_wp2_with (first
      | (go_at_call 118; refine (hwd.out _).mono ?_; rintro e w1 ⟨rfl, rfl⟩; rw [HW.out])
      | (go_at_call 120; refine (hgr.out _).mono ?_; rintro e w1 ⟨rfl, rfl⟩))
    go_ret
    exact ⟨by rw [hw.out]; rfl, rfl⟩
end Go.Proofs.YtgogdcpgfmndnaaGreatDoor
