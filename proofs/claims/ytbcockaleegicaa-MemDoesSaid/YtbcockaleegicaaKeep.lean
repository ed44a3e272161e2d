/-
  MemKeeps: what a call leaves of a word that it is not asked to touch. Plain lemmas.
-/
import Derived.Test.YtbcockaleegicaaActs
namespace Go.Proofs.Ytbcockaleegicaa

/-- the second allocation holds x at i -/
def Holds (S : MS) (i : Nat) (x : Wd) : Prop := ∃ l, S.at 1 = some l ∧ l[i]? = some (some x)

theorem holds_alloc {S S' : MS} {i : Nat} {x y : Wd} {n er : Int} (h : Holds S i x) (he : allocR S n = ((y, er), S')) : Holds S' i x ∧ S'.blocks.length ≤ S.blocks.length + 1 := by
  obtain ⟨l, hl, hx⟩ := h
  have hk := at_lt hl
  unfold allocR at he
  split at he
  · cases he; exact ⟨⟨l, hl, hx⟩, by omega⟩
  · split at he
    · cases he; exact ⟨⟨l, hl, hx⟩, by omega⟩
    · cases he
      refine ⟨⟨l, ?_, hx⟩, by rw [push_len]; omega⟩
      rw [at_push, if_neg (by omega)]
      exact hl

theorem holds_setb {S : MS} {i k : Nat} {x : Wd} {o : Option (List Cl)} (h : Holds S i x) (hk : k < S.blocks.length) (ho : k = 1 → ∃ l, o = some l ∧ l[i]? = some (some x)) : Holds (S.setb k o) i x ∧ (S.setb k o).blocks.length ≤ S.blocks.length := by
  obtain ⟨l, hl, hx⟩ := h
  refine ⟨?_, by rw [setb_len]; omega⟩
  by_cases e : 1 = k
  · obtain ⟨l', h1, h2⟩ := ho e.symm
    exact ⟨l', by rw [at_setb S k o hk, if_pos e]; exact h1, h2⟩
  · exact ⟨l, by rw [at_setb S k o hk, if_neg e]; exact hl, hx⟩

theorem holds_free {S S' : MS} {i : Nat} {x : Wd} {b : Bool} {a n er : Int} (h : Holds S i x) (ha : a ≠ 2) (he : freeR S b a n = (er, S')) : Holds S' i x ∧ S'.blocks.length ≤ S.blocks.length := by
  unfold freeR at he
  by_cases h1 : findE S b a = 0
  · rw [if_neg (by simpa using h1)] at he
    obtain ⟨k, l, rfl, rfl, hl⟩ := findE_zero h1
    split at he
    · cases he; exact ⟨h, Nat.le_refl _⟩
    · cases he
      rw [show ((k : Int) + 1 - 1).toNat = k by omega]
      exact holds_setb h (at_lt hl) fun e => by omega
  · rw [if_pos h1] at he
    cases he; exact ⟨h, Nat.le_refl _⟩

/-- a write from n on, c words long (at least one), does not touch the place -/
def Off1 (a n c : Int) (i : Nat) : Prop := a ≠ 2 ∨ ¬ (n ≤ i ∧ (i : Int) < n + c)

theorem holds_store {S S' : MS} {i : Nat} {x y : Wd} {b : Bool} {a n er : Int} (h : Holds S i x) (hc : Off1 a n 1 i) (he : storeR S b a n y = (er, S')) : Holds S' i x ∧ S'.blocks.length ≤ S.blocks.length := by
  unfold storeR at he
  by_cases h1 : spanE S b a n 1 = 0
  · rw [if_neg (by simpa using h1)] at he
    obtain ⟨k, N, l, rfl, rfl, rfl, hl, hN⟩ := spanE_zero h1
    rw [show ((k : Int) + 1 - 1).toNat = k by omega, hl] at he
    cases he
    refine holds_setb h (at_lt hl) fun e => ⟨_, rfl, ?_⟩
    obtain ⟨l', hl', hx⟩ := h
    rw [e] at hl
    rw [hl] at hl'
    cases hl'
    rw [Int.toNat_natCast, List.getElem?_set, if_neg]
    · exact hx
    · rcases hc with h2 | h2
      · omega
      · omega
  · rw [if_pos h1] at he
    cases he; exact ⟨h, Nat.le_refl _⟩

theorem lay_keep {l cs : List Cl} {N i : Nat} {x : Wd} (hx : l[i]? = some (some x)) (hl : N + cs.length ≤ l.length) (hi : ¬ (N ≤ i ∧ i < N + cs.length)) : (lay l N cs)[i]? = some (some x) := by
  rw [lay_get _ _ _ _ hl]
  by_cases h1 : i < N
  · rw [if_pos h1]; exact hx
  · rw [if_neg h1, if_neg (by omega)]; exact hx

theorem holds_clear {S S' : MS} {i : Nat} {x : Wd} {b : Bool} {a n c er : Int} (h : Holds S i x) (hc : Off1 a n c i) (he : clearR S b a n c = (er, S')) : Holds S' i x ∧ S'.blocks.length ≤ S.blocks.length := by
  unfold clearR at he
  by_cases h0 : c < 0
  · rw [if_pos h0] at he
    cases he; exact ⟨h, Nat.le_refl _⟩
  · rw [if_neg h0] at he
    by_cases h1 : spanE S b a n c = 0
    · rw [if_neg (by simpa using h1)] at he
      obtain ⟨k, N, l, rfl, rfl, rfl, hl, hN⟩ := spanE_zero h1
      rw [show ((k : Int) + 1 - 1).toNat = k by omega, hl] at he
      cases he
      refine holds_setb h (at_lt hl) fun e => ⟨_, rfl, ?_⟩
      obtain ⟨l', hl', hx⟩ := h
      rw [e] at hl
      rw [hl] at hl'
      cases hl'
      rw [Int.toNat_natCast]
      refine lay_keep hx (by simp; omega) ?_
      rw [List.length_replicate]
      rcases hc with h2 | h2
      · omega
      · omega
    · rw [if_pos h1] at he
      cases he; exact ⟨h, Nat.le_refl _⟩

theorem holds_copy {S S' : MS} {i : Nat} {x : Wd} {b b' : Bool} {a n a' n' c er : Int} (h : Holds S i x) (hc : Off1 a n c i) (he : copyR S b a n b' a' n' c = (er, S')) : Holds S' i x ∧ S'.blocks.length ≤ S.blocks.length := by
  unfold copyR at he
  by_cases h0 : c < 0
  · rw [if_pos h0] at he
    cases he; exact ⟨h, Nat.le_refl _⟩
  · rw [if_neg h0] at he
    split at he
    · cases he; exact ⟨h, Nat.le_refl _⟩
    · rename_i hs0
      by_cases h1 : spanE S b a n c = 0
      · rw [if_neg (by simpa using h1)] at he
        split at he
        · cases he; exact ⟨h, Nat.le_refl _⟩
        · rename_i hc0
          obtain ⟨k, N, l, rfl, rfl, rfl, hl, hN⟩ := spanE_zero h1
          obtain ⟨k', N', l', rfl, rfl, rfl, hl1, hN', hs⟩ := storedE_zero (by simpa using hs0) (by omega)
          have hlen := scanE_len _ _ hs
          simp at hlen
          rw [show ((k : Int) + 1 - 1).toNat = k by omega, show ((k' : Int) + 1 - 1).toNat = k' by omega, hl, hl1] at he
          cases he
          refine holds_setb h (at_lt hl) fun e => ⟨_, rfl, ?_⟩
          obtain ⟨l2, hl2, hx⟩ := h
          rw [e] at hl
          rw [hl] at hl2
          cases hl2
          rw [Int.toNat_natCast, Int.toNat_natCast]
          have hlc : (((some l').getD []).drop N' |>.take c.toNat).length = c.toNat := by simp; omega
          refine lay_keep hx (by rw [hlc]; omega) ?_
          rw [hlc]
          rcases hc with h2 | h2
          · omega
          · omega
      · rw [if_pos h1] at he
        cases he; exact ⟨h, Nat.le_refl _⟩
end Go.Proofs.Ytbcockaleegicaa
