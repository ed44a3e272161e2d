/-
  What each of mem's calls answers and leaves, as functions, at all arguments. Conditions: the memory lies in the heap.
-/
import Derived.Test.YtbcockaleegicaaFreed
namespace Go.Proofs.Ytbcockaleegicaa
open Go.RowKit

theorem Turned.same {w w' : World} {mb : Nat} {lm : Option Nat} {loc : Nat → Nat} {S : MS} (R : RepAt w mb lm loc S) (hb : Below w.heap.size w w') : Turned w w' mb lm loc S S := ⟨lm, loc, R.below hb, fun _ h => .inl h, Kept.of_below hb⟩

def allocR (S : MS) (n : Int) : (Wd × Int) × MS :=
  if n < 0 then ((⟨false, 0, 0⟩, 1), S) else if S.room - S.words < n then ((⟨false, 0, 0⟩, 10), S) else ((⟨true, (S.blocks.length : Int) + 1, 0⟩, 0), S.push n.toNat)
def freeR (S : MS) (b : Bool) (a n : Int) : Int × MS :=
  if findE S b a ≠ 0 then (findE S b a, S) else if n ≠ 0 then (13, S) else (0, S.setb (a - 1).toNat none)
def storeR (S : MS) (b : Bool) (a n : Int) (x : Wd) : Int × MS :=
  if spanE S b a n 1 ≠ 0 then (spanE S b a n 1, S) else (0, S.setb (a - 1).toNat ((S.at (a - 1).toNat).map fun l => l.set n.toNat (some x)))
def clearR (S : MS) (b : Bool) (a n c : Int) : Int × MS :=
  if c < 0 then (1, S) else if spanE S b a n c ≠ 0 then (spanE S b a n c, S) else (0, S.setb (a - 1).toNat ((S.at (a - 1).toNat).map fun l => lay l n.toNat (List.replicate c.toNat none)))
def copyR (S : MS) (b : Bool) (a n : Int) (b' : Bool) (a' n' c : Int) : Int × MS :=
  if c < 0 then (1, S) else if storedE S b' a' n' c ≠ 0 then (storedE S b' a' n' c, S) else if spanE S b a n c ≠ 0 then (spanE S b a n c, S) else if c = 0 then (0, S)
    else (0, S.setb (a - 1).toNat ((S.at (a - 1).toNat).map fun l => lay l n.toNat ((((S.at (a' - 1).toNat).getD []).drop n'.toNat).take c.toNat)))

theorem scanE_len : ∀ (c : Nat) (l : List Cl), scanE l c = 0 → c ≤ l.length
  | 0, _, _ => Nat.zero_le _
  | c + 1, [], h => by simp [scanE] at h
  | c + 1, none :: l, h => by simp [scanE] at h
  | c + 1, some x :: l, h => by
    have := scanE_len c l h
    simp; omega

section
variable {w : World} {mb : Nat} {lm : Option Nat} {loc : Nat → Nat} {S : MS}

theorem alloc_gen (R : RepAt w mb lm loc S) (hmade : S.blocks.length + 1 < 1000) (n : Int) (x : Wd) (er : Int) (S' : MS) (h : allocR S n = ((x, er), S')) :
    Calls Try.prog 15 #[.pointer (some ⟨mb, 0, none⟩), .int .i64 n] w fun e w' => e = .returned (.tuple #[.agg #[.bool x.p, .int .i64 x.a, .int .i64 x.n], .int .i64 er]) ∧ Turned w w' mb lm loc S S' := by
  unfold allocR at h
  by_cases h1 : n < 0
  · rw [if_pos h1] at h
    cases h
    exact (alloc_neg mb n w h1).mono fun e w' ⟨he, hb⟩ => ⟨he, .same R hb⟩
  · rw [if_neg h1] at h
    by_cases h2 : S.room - S.words < n
    · rw [if_pos h2] at h
      cases h
      exact (alloc_room R n (by omega) h2).mono fun e w' ⟨he, hb⟩ => ⟨he, .same R hb⟩
    · rw [if_neg h2] at h
      cases h
      exact alloc_any R n _ (by omega) (by omega) hmade rfl

theorem free_gen (R : RepAt w mb lm loc S) (b : Bool) (a n er : Int) (S' : MS) (h : freeR S b a n = (er, S')) :
    Calls Try.prog 17 #[.pointer (some ⟨mb, 0, none⟩), .agg #[.bool b, .int .i64 a, .int .i64 n]] w fun e w' => e = .returned (.int .i64 er) ∧ Turned w w' mb lm loc S S' := by
  unfold freeR at h
  by_cases h1 : findE S b a = 0
  · rw [if_neg (by simpa using h1)] at h
    obtain ⟨k, l, rfl, rfl, hl⟩ := findE_zero h1
    by_cases h2 : n = 0
    · rw [if_neg (by simpa using h2), show ((k : Int) + 1 - 1).toNat = k by omega] at h
      cases h
      subst h2
      exact free_ok R k l hl
    · rw [if_pos h2] at h
      cases h
      exact (free_range R k l hl n h2).mono fun e w' ⟨he, hb⟩ => ⟨he, .same R hb⟩
  · rw [if_pos h1] at h
    cases h
    exact (free_err R b a n _ rfl h1).mono fun e w' ⟨he, hb⟩ => ⟨he, .same R hb⟩

theorem store_gen (R : RepAt w mb lm loc S) (b : Bool) (a n : Int) (x : Wd) (er : Int) (S' : MS) (h : storeR S b a n x = (er, S')) (hn : n ≤ 9223372036854775807) :
    Calls Try.prog 21 #[.pointer (some ⟨mb, 0, none⟩), .agg #[.bool b, .int .i64 a, .int .i64 n], .agg #[.bool x.p, .int .i64 x.a, .int .i64 x.n]] w fun e w' => e = .returned (.int .i64 er) ∧ Turned w w' mb lm loc S S' := by
  unfold storeR at h
  by_cases h1 : spanE S b a n 1 = 0
  · rw [if_neg (by simpa using h1)] at h
    obtain ⟨k, N, l, rfl, rfl, rfl, hl, hN⟩ := spanE_zero h1
    rw [show ((k : Int) + 1 - 1).toNat = k by omega, hl] at h
    cases h
    exact store_ok R k l hl N x (by omega)
  · rw [if_pos h1] at h
    cases h
    exact (store_fail R b a n _ x rfl h1 hn).mono fun e w' ⟨he, hb⟩ => ⟨he, .same R hb⟩

theorem clear_gen (R : RepAt w mb lm loc S) (b : Bool) (a n c er : Int) (S' : MS) (h : clearR S b a n c = (er, S')) (hn : n ≤ 9223372036854775807) :
    Calls Try.prog 25 #[.pointer (some ⟨mb, 0, none⟩), .agg #[.bool b, .int .i64 a, .int .i64 n], .int .i64 c] w fun e w' => e = .returned (.int .i64 er) ∧ Turned w w' mb lm loc S S' := by
  unfold clearR at h
  by_cases h0 : c < 0
  · rw [if_pos h0] at h
    cases h
    exact (clear_neg mb b a n c w h0).mono fun e w' ⟨he, hb⟩ => ⟨he, .same R hb⟩
  · rw [if_neg h0] at h
    by_cases h1 : spanE S b a n c = 0
    · rw [if_neg (by simpa using h1)] at h
      obtain ⟨k, N, l, rfl, rfl, rfl, hl, hN⟩ := spanE_zero h1
      obtain ⟨C, rfl⟩ : ∃ C : Nat, c = C := ⟨c.toNat, by omega⟩
      rw [show ((k : Int) + 1 - 1).toNat = k by omega, hl] at h
      cases h
      exact clear_ok R k l hl N C (by omega)
    · rw [if_pos h1] at h
      cases h
      exact (clear_fail R b a n c _ rfl h1 hn (by omega)).mono fun e w' ⟨he, hb⟩ => ⟨he, .same R hb⟩

theorem copy_gen (R : RepAt w mb lm loc S) (b : Bool) (a n : Int) (b' : Bool) (a' n' c er : Int) (S' : MS) (h : copyR S b a n b' a' n' c = (er, S')) (hn : n ≤ 9223372036854775807) (hc : c ≤ 1000) :
    Calls Try.prog 23 #[.pointer (some ⟨mb, 0, none⟩), .agg #[.bool b, .int .i64 a, .int .i64 n], .agg #[.bool b', .int .i64 a', .int .i64 n'], .int .i64 c] w fun e w' => e = .returned (.int .i64 er) ∧ Turned w w' mb lm loc S S' := by
  unfold copyR at h
  by_cases h0 : c < 0
  · rw [if_pos h0] at h
    cases h
    exact (copy_neg mb b b' a n a' n' c w h0).mono fun e w' ⟨he, hb⟩ => ⟨he, .same R hb⟩
  · rw [if_neg h0] at h
    obtain ⟨C, rfl⟩ : ∃ C : Nat, c = C := ⟨c.toNat, by omega⟩
    by_cases h1 : storedE S b' a' n' C = 0
    · rw [if_neg (by simpa using h1)] at h
      by_cases h2 : spanE S b a n C = 0
      · rw [if_neg (by simpa using h2)] at h
        by_cases h3 : C = 0
        · subst h3
          rw [if_pos (by simp)] at h
          cases h
          exact (copy_zero R b b' a n a' n' h2).mono fun e w' ⟨he, hb⟩ => ⟨he, .same R hb⟩
        · rw [if_neg (by omega)] at h
          obtain ⟨k, N, l, rfl, rfl, rfl, hl, hN⟩ := spanE_zero h2
          obtain ⟨k', N', l', rfl, rfl, rfl, hl', hN', hs⟩ := storedE_zero h1 (by omega)
          rw [Int.toNat_natCast] at hs
          rw [show ((k : Int) + 1 - 1).toNat = k by omega, show ((k' : Int) + 1 - 1).toNat = k' by omega, hl, hl'] at h
          cases h
          have := scanE_len _ _ hs
          simp at this
          exact copy_ok R k k' l l' hl hl' N N' C (by omega) hN' (by omega) hs (by omega) (by omega)
      · rw [if_pos h2] at h
        cases h
        exact (copy_fail2 R b b' a n a' n' C _ h1 rfl h2 hn (by omega)).mono fun e w' ⟨he, hb⟩ => ⟨he, .same R hb⟩
    · rw [if_pos h1] at h
      cases h
      exact (copy_fail1 R b b' a n a' n' C _ rfl h1 (by omega)).mono fun e w' ⟨he, hb⟩ => ⟨he, .same R hb⟩
end
end Go.Proofs.Ytbcockaleegicaa
