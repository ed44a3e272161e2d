/-
  The document's own number. Conditions: digits alone stand there.
-/
import Derived.Test.YthhkndnmeafanaaDoorLRefN
namespace Go.Proofs.YthhkndnmeafanaaDoor
open Go.RowKit

def numOut (l : List UInt8) : Value := if numV l < 9223372036854775808 then .tuple #[.int .i64 (numV l), .bool true] else .tuple #[.int .i64 0, .bool false]

theorem take_snoc (l : List UInt8) (j : Nat) (c : UInt8) (r : List UInt8) (h : l.drop j = c :: r) : l.take (j + 1) = l.take j ++ [c] := by
  have hj : l[j]? = some c := by
    have : (l.drop j)[0]? = some c := by rw [h]; rfl
    simpa using this
  rw [List.take_add_one, hj]
  rfl

set_option maxRecDepth 100000 in
set_option maxHeartbeats 4000000 in
theorem rnumber_any (s : ByteArray) (hs : s.size ≤ 65536) (hd : ∀ c ∈ bs s, digitB c = true) (w : World) :
    Calls Tryd.prog 23 #[.string s] w fun e w' => e = .returned (numOut (bs s)) ∧ w' = w := by
  replace hd := Lib.hid hd
  go_enter Tryd.func23, Tryd.ntmps23
  go_wp2_with fail
  go_loopw [4, 5] (fun un u wr => ∃ j : Nat, j ≤ s.size ∧ u = .int .i64 j ∧ un = .int .i64 (numV ((bs s).take j)) ∧ numV ((bs s).take j) < 9223372036854775808 ∧ wr = w) (fun _ u _ => s.size - (intOf u).toNat)
  case atStart => exact ⟨0, by omega, rfl, rfl, by rw [List.take_zero]; decide, rfl⟩
  case round =>
    obtain ⟨j, hj, rfl, rfl, hn, rfl⟩ := hrel
    by_cases hjl : j < s.size
    · have t1 : decide ((j : Int) < s.size) = true := by simp; omega
      obtain ⟨c, r, h1, h2, h3⟩ := byte_at s j hjl
      have hi := run_byte s j c hjl h3
      have hcd := hd.out c (List.mem_of_mem_drop (by rw [h1]; simp))
      simp only [digitB, decide_eq_true_eq] at hcd
      have htk := take_snoc (bs s) j c r h1
      have hnv : numV ((bs s).take (j + 1)) = numV ((bs s).take j) * 10 + (c.toNat - 48) := by rw [htk, numV_snoc]
      have hmono := numV_take (bs s) (j + 1)
      obtain ⟨d, hdd⟩ : ∃ d, d = c.toNat - 48 := ⟨_, rfl⟩
      rw [← hdd] at hnv
      have hc : c.toNat = 48 + d := by omega
      have hd9 : d ≤ 9 := by omega
      obtain ⟨n, hne⟩ : ∃ n, n = numV ((bs s).take j) := ⟨_, rfl⟩
      rw [← hne] at hn hnv ⊢
      have hi2 : ∀ W, (Instr.index 9 (.string s) (.int .i64 j)).run Tryd.prog W = .ok (.int .u8 (48 + (d : Int))) W := fun W => by
        rw [hi W, hc]; rfl
      have HNV := Lib.hid hnv
      have HM := Lib.hid hmono
      clear hi h1 h2 h3 htk hnv hmono hdd hc hne hcd
      by_cases hov : n * 10 + d < 9223372036854775808
      · have t2 : decide ((n : Int) > (9223372036854775807 - (d : Int)) / 10) = false := by simp; omega
        go_wp2_with fail
        go_roundw
        case rel => exact ⟨j + 1, by omega, by go_num, by rw [HNV.out]; congr 1; omega, by rw [HNV.out]; exact hov, by trivial⟩
        case measure => simp [intOf]; omega
      · have t2 : decide ((n : Int) > (9223372036854775807 - (d : Int)) / 10) = true := by simp; omega
        go_wp2_with fail
        have HO := Lib.hid (show numOut (bs s) = .tuple #[.int .i64 0, .bool false] by rw [numOut, if_neg (by have := HM.out; rw [HNV.out] at this; omega)])
        go_returns
        exact ⟨by rw [HO.out]; rfl, rfl⟩
    · have t1 : decide ((j : Int) < s.size) = false := by simp; omega
      obtain rfl : j = s.size := by omega
      rw [List.take_of_length_le (by rw [bs_len]; omega)] at hn ⊢
      have HO := Lib.hid (show numOut (bs s) = .tuple #[.int .i64 (numV (bs s)), .bool true] by rw [numOut, if_pos hn])
      go_wp2
      go_returns
      exact ⟨by rw [HO.out]; rfl, rfl⟩
end Go.Proofs.YthhkndnmeafanaaDoor
