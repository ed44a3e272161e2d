/-
  What a name is, on bytes. Definitions and small lemmas; no conditions.
-/
import Derived.WalkKit
namespace Go.Proofs.YtgogdcpgfmndnaaGreatDoor
open Go.RowKit

def letterB (c : UInt8) : Bool := decide (97 ≤ c.toNat ∧ c.toNat ≤ 122) || decide (65 ≤ c.toNat ∧ c.toNat ≤ 90)

def greatB (c : UInt8) : Bool := decide (65 ≤ c.toNat ∧ c.toNat ≤ 90)

def digitB (c : UInt8) : Bool := decide (48 ≤ c.toNat ∧ c.toNat ≤ 57)

def nameB (c : UInt8) : Bool := letterB c || digitB c || decide (c.toNat = 95)

def spanN (f : UInt8 → Bool) : List UInt8 → Nat
  | [] => 0
  | c :: r => if f c then spanN f r + 1 else 0

theorem spanN_le (f : UInt8 → Bool) : ∀ l, spanN f l ≤ l.length
  | [] => Nat.le_refl _
  | c :: r => by
    unfold spanN
    split
    · simpa using spanN_le f r
    · simp

theorem spanN_head {f : UInt8 → Bool} {l : List UInt8} {c : UInt8} {r : List UInt8} (h : l.drop (spanN f l) = c :: r) : f c = false := by
  induction l with
  | nil => simp at h
  | cons a t ih =>
    cases ha : f a
    · simp [spanN, ha] at h
      rw [← h.1]; exact ha
    · simp only [spanN, ha, if_true, List.drop_succ_cons] at h
      exact ih h

/-- Names. -/
def wordB : List UInt8 → Bool
  | [] => false
  | c :: r => decide (r.length + 1 ≤ 24) && letterB c && decide (spanN nameB r = r.length)

def upperB (l : List UInt8) : Bool := wordB l && (match l with | [] => false | c :: _ => greatB c)
end Go.Proofs.YtgogdcpgfmndnaaGreatDoor
