/-
  Numbers: what digits say. No conditions.
-/
import Derived.Test.YthhkndnmeafanaaDoorLPlain
import Derived.Lib.AtoiAll
namespace Go.Proofs.YthhkndnmeafanaaDoor

theorem foldl_num (l : List UInt8) (a : Nat) : l.foldl (fun a (c : UInt8) => a * 10 + (c.toNat - 48)) a = a * 10 ^ l.length + numV l := by
  induction l generalizing a with
  | nil => simp [numV]
  | cons c r ih =>
    rw [List.foldl_cons, ih]
    have : numV (c :: r) = (c.toNat - 48) * 10 ^ r.length + numV r := by
      rw [numV, List.foldl_cons, ih]
      simp
    rw [this, List.length_cons, Nat.pow_succ, Nat.add_mul, Nat.mul_assoc, Nat.mul_comm 10, Nat.add_assoc]

theorem numV_cons (c : UInt8) (r : List UInt8) : numV (c :: r) = (c.toNat - 48) * 10 ^ r.length + numV r := by
  rw [numV, List.foldl_cons, foldl_num]
  simp

theorem numV_append (a b : List UInt8) : numV (a ++ b) = numV a * 10 ^ b.length + numV b := by
  rw [numV, List.foldl_append, foldl_num]
  rfl

theorem numV_snoc (a : List UInt8) (c : UInt8) : numV (a ++ [c]) = numV a * 10 + (c.toNat - 48) := by
  rw [numV_append]
  simp [numV]

theorem numV_zeros (z : Nat) (l : List UInt8) : numV (List.replicate z 48 ++ l) = numV l := by
  induction z with
  | zero => rfl
  | succ z ih => rw [List.replicate_succ, List.cons_append, numV_cons, ih]; simp

theorem numV_take (l : List UInt8) (i : Nat) : numV (l.take i) ≤ numV l := by
  conv => rhs; rw [← List.take_append_drop i l, numV_append]
  have := Nat.one_le_pow (l.drop i).length 10 (by omega)
  exact Nat.le_trans (Nat.le_mul_of_pos_right _ this) (Nat.le_add_right _ _)

theorem spanN_all {f : UInt8 → Bool} {l : List UInt8} (h : ∀ c ∈ l, f c = true) : spanN f l = l.length := by
  induction l with
  | nil => rfl
  | cons c r ih => simp [spanN, h c (by simp), ih (fun x hx => h x (by simp [hx]))]

theorem spanN_take {f : UInt8 → Bool} (l : List UInt8) : ∀ c ∈ l.take (spanN f l), f c = true := by
  induction l with
  | nil => intro c hc; simp at hc
  | cons a r ih =>
    intro c hc
    cases ha : f a
    · simp [spanN, ha] at hc
    · simp only [spanN, ha, if_true, List.take_succ_cons, List.mem_cons] at hc
      rcases hc with rfl | hc
      · exact ha
      · exact ih c hc

theorem digit_not_letter {c : UInt8} (h : digitB c = true) : letterB c = false := by
  simp only [digitB, decide_eq_true_eq] at h
  simp only [letterB, Bool.or_eq_false_iff, decide_eq_false_iff_not]
  omega

theorem digit_not_blank {c : UInt8} (h : digitB c = true) : blankB c = false := by
  simp only [digitB, decide_eq_true_eq] at h
  simp only [blankB, Bool.or_eq_false_iff, decide_eq_false_iff_not]
  omega

theorem digit_not_slash {c : UInt8} {r : List UInt8} (h : digitB c = true) : slashes (c :: r) = false := by
  simp only [digitB, decide_eq_true_eq] at h
  cases h2 : slashes (c :: r) with
  | false => rfl
  | true =>
    obtain ⟨r', hr⟩ := slashes_cons h2
    cases hr
    simp at h

theorem lexL_number {l : List UInt8} (h0 : l ≠ []) (h : ∀ c ∈ l, digitB c = true) (hv : numV l < 9223372036854775808) (hl : l.length ≤ 65536) : lexL l = .good [⟨2, l, numV l, 0⟩] := by
  cases l with
  | nil => exact absurd rfl h0
  | cons c r =>
    have hs := spanN_all h
    have hc := h c (by simp)
    have ht : tokR (c :: r) = .tok 2 (c :: r).length (numV (c :: r)) := by
      simp only [tokR, digit_not_letter hc, hc, hs, List.take_length, hv, Bool.false_eq_true, if_false, if_true]
    rw [lexL, if_pos hl, lexT_tok _ _ (passN_zero (digit_not_blank hc) (digit_not_slash hc)), lexQ_tok ht]
    rw [List.drop_length, List.take_length]
    rfl

theorem parse_digits : ∀ (l : List UInt8) (acc : Nat), acc < 18446744073709551616 → (∀ c ∈ l, digitB c = true) → Lib.parseUint10 acc l = if acc * 10 ^ l.length + numV l < 18446744073709551616 then .ok (acc * 10 ^ l.length + numV l) else .range
  | [], acc, ha, _ => by simp [Lib.parseUint10, numV, ha]
  | c :: r, acc, ha, h => by
    have hc := h c (by simp)
    simp only [digitB, decide_eq_true_eq] at hc
    have e : (acc * 10 + (c.toNat - 48)) * 10 ^ r.length + numV r = acc * 10 ^ (c :: r).length + numV (c :: r) := by
      rw [numV_cons, List.length_cons, Nat.pow_succ, Nat.add_mul, Nat.mul_assoc, Nat.mul_comm 10, Nat.add_assoc]
    have hp := Nat.one_le_pow r.length 10 (by omega)
    have hge : acc * 10 + (c.toNat - 48) ≤ acc * 10 ^ (c :: r).length + numV (c :: r) := by
      rw [← e]
      exact Nat.le_trans (Nat.le_mul_of_pos_right _ hp) (Nat.le_add_right _ _)
    rw [Lib.parseUint10, if_pos hc]
    by_cases h1 : 1844674407370955162 ≤ acc
    · rw [if_pos h1, if_neg (by omega)]
    · rw [if_neg h1]
      by_cases h2 : 18446744073709551616 ≤ acc * 10 + (c.toNat - 48)
      · rw [if_pos h2, if_neg (by omega)]
      · rw [if_neg h2, parse_digits r _ (by omega) (fun x hx => h x (by simp [hx])), e]

theorem atoi_digits {l : List UInt8} (h0 : l ≠ []) (h : ∀ c ∈ l, digitB c = true) : Lib.atoiAll l = if numV l < 9223372036854775808 then .ok (numV l : Int) else .range := by
  cases l with
  | nil => exact absurd rfl h0
  | cons c r =>
    have hc := h c (by simp)
    have hc' := hc
    simp only [digitB, decide_eq_true_eq] at hc'
    have hp := parse_digits (c :: r) 0 (by omega) h
    simp only [Nat.zero_mul, Nat.zero_add] at hp
    have e1 : ¬ c.toNat = 43 := by omega
    have e2 : ¬ c.toNat = 45 := by omega
    simp only [Lib.atoiAll, e1, e2, or_self, Lib.parseMag, reduceCtorEq, if_false, hp, not_false_eq_true, true_and, false_and]
    by_cases h1 : numV (c :: r) < 18446744073709551616
    · rw [if_pos h1]
      by_cases h2 : numV (c :: r) < 9223372036854775808
      · rw [if_pos h2]; simp only; rw [if_neg (by omega)]
      · rw [if_neg h2]; simp only; rw [if_pos (by omega)]
    · rw [if_neg h1, if_neg (by omega)]

end Go.Proofs.YthhkndnmeafanaaDoor
