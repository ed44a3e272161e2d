/-
  How deep statements are nested, and what that does to whether they could have been read: plain lemmas. No conditions.
-/
import Derived.Test.YtgogdcpgfmndnaaGreatDoorTValC
namespace Go.Proofs.YtgogdcpgfmndnaaGreatDoor
open Go.RowKit

mutual
def deepS : St5 → Nat
  | .mk k _ _ _ _ _ _ _ th _ el _ ar => if k = 2 ∨ k = 3 then 1 + max (deepL th) (deepL el) else if k = 4 then deepA ar else 1
def deepL : List St5 → Nat
  | [] => 1
  | s :: r => max (deepS s) (deepL r)
def deepA : List Ar5 → Nat
  | [] => 1
  | a :: r => max (1 + deepR a) (deepA r)
def deepR : Ar5 → Nat
  | .mk _ _ _ body => deepL body
end
theorem deepL_pos : ∀ l, 1 ≤ deepL l
  | [] => by rw [deepL]; exact Nat.le_refl _
  | s :: r => by rw [deepL]; have := deepL_pos r; omega
theorem deepA_pos : ∀ l, 1 ≤ deepA l
  | [] => by rw [deepA]; exact Nat.le_refl _
  | s :: r => by rw [deepA]; have := deepA_pos r; omega

/-- What could have been read is no deeper than it may be. -/
theorem rowOk_cons (d : Nat) (s : St5) (r : List St5) : rowOk d (s :: r) = (stOk d s && (decide (d ≤ 60) && stsOk d r)) := by
  rw [rowOk_eq]
  unfold rowOk
  rw [List.all_cons]
  cases decide (d ≤ 60) <;> cases stOk d s <;> rfl

theorem stEq_empty3 {k pos : Int} {nm : ByteArray} {ty : Ty5} {p : Pl5} {rv : Rv5} {op : Op5} {ht he ha : Hd} {th el : List St5} {ar : List Ar5} {k' : Int} (h : stEq (.mk k pos nm ty p rv op ht th he el ha ar) (stZ k') = true) : th = [] ∧ el = [] ∧ ar = [] := by
  rw [stZ, stEq] at h
  simp only [Bool.and_eq_true] at h
  obtain ⟨⟨⟨-, h1⟩, h2⟩, h3⟩ := h
  refine ⟨?_, ?_, ?_⟩
  · cases th with
    | nil => rfl
    | cons a b => rw [stsEq_eq, eqL] at h1; cases h1; all_goals simp
  · cases el with
    | nil => rfl
    | cons a b => rw [stsEq_eq, eqL] at h2; cases h2; all_goals simp
  · cases ar with
    | nil => rfl
    | cons a b => rw [arsEq_eq, eqL] at h3; cases h3; all_goals simp

mutual
/-- What is valid at d, and not too deep, is valid at e. -/
theorem stOk_at (d e : Nat) : ∀ s : St5, stOk d s = true → deepS s + e ≤ 61 → stOk e s = true
  | .mk k pos nm ty p rv op ht th he el ha ar, h, hd => by
    by_cases h0 : k = 0
    · subst h0; rw [stOk_0] at h ⊢; exact h
    by_cases h1 : k = 1
    · subst h1; rw [stOk_1] at h ⊢; exact h
    by_cases h2 : k = 2
    · subst h2
      rw [stOk_2] at h ⊢
      rw [deepS, if_pos (by decide)] at hd
      simp only [Bool.and_eq_true] at h ⊢
      obtain ⟨⟨⟨a, b⟩, c⟩, f⟩ := h
      rw [← rowOk_eq, Bool.and_eq_true] at b c
      refine ⟨⟨⟨a, ?_⟩, ?_⟩, f⟩
      · rw [← rowOk_eq, Bool.and_eq_true]
        exact ⟨decide_eq_true (by have := deepL_pos th; omega), stsOk_at (d + 1) (e + 1) th b.2 (by omega)⟩
      · rw [← rowOk_eq, Bool.and_eq_true]
        exact ⟨decide_eq_true (by have := deepL_pos el; omega), stsOk_at (d + 1) (e + 1) el c.2 (by omega)⟩
    by_cases h3 : k = 3
    · subst h3
      rw [stOk_3] at h ⊢
      rw [deepS, if_pos (by decide)] at hd
      simp only [Bool.and_eq_true] at h ⊢
      obtain ⟨⟨a, b⟩, f⟩ := h
      rw [← rowOk_eq, Bool.and_eq_true] at b
      refine ⟨⟨a, ?_⟩, f⟩
      rw [← rowOk_eq, Bool.and_eq_true]
      exact ⟨decide_eq_true (by have := deepL_pos th; omega), stsOk_at (d + 1) (e + 1) th b.2 (by omega)⟩
    by_cases h4 : k = 4
    · subst h4
      rw [stOk_4] at h ⊢
      rw [deepS, if_neg (by decide), if_pos rfl] at hd
      simp only [Bool.and_eq_true] at h ⊢
      obtain ⟨⟨a, b⟩, f⟩ := h
      rw [← armsOk_eq] at b ⊢
      exact ⟨⟨a, armsOk_at (d + 1) (e + 1) ar b (by omega)⟩, f⟩
    by_cases h5 : k = 5
    · subst h5; rw [stOk_5] at h ⊢; exact h
    by_cases h6 : k = 6
    · subst h6; rw [stOk_6] at h ⊢; exact h
    by_cases h7 : k = 7
    · subst h7; rw [stOk_7] at h ⊢; exact h
    by_cases h8 : k = 8
    · subst h8; rw [stOk_8] at h ⊢; exact h
    rw [stOk, if_neg h0, if_neg h1, if_neg h2, if_neg h3, if_neg h4, if_neg (by simp [h5, h6, h7]), if_neg h8] at h
    cases h
theorem stsOk_at (d e : Nat) : ∀ l : List St5, stsOk d l = true → deepL l + e ≤ 61 → stsOk e l = true
  | [], _, _ => by rw [stsOk]
  | s :: r, h, hd => by
    rw [stsOk, Bool.and_eq_true] at h ⊢
    rw [deepL] at hd
    exact ⟨stOk_at d e s h.1 (by omega), stsOk_at d e r h.2 (by omega)⟩
theorem arOk_at (d e : Nat) : ∀ a : Ar5, arOk d a = true → deepR a + e ≤ 61 → arOk e a = true
  | .mk vr bi h0 body, h, hd => by
    rw [arOk] at h ⊢
    rw [deepR] at hd
    simp only [Bool.and_eq_true] at h ⊢
    obtain ⟨a, b, c⟩ := h
    exact ⟨a, decide_eq_true (by have := deepL_pos body; omega), stsOk_at d e body c hd⟩
theorem armsOk_at (d e : Nat) : ∀ l : List Ar5, armsOk d l = true → deepA l + e ≤ 62 → armsOk e l = true
  | [], _, _ => by rw [armsOk]
  | s :: r, h, hd => by
    rw [armsOk, Bool.and_eq_true] at h ⊢
    rw [deepA] at hd
    exact ⟨arOk_at d e s h.1 (by omega), armsOk_at d e r h.2 (by omega)⟩
end
theorem rowOk_at {d e : Nat} {l : List St5} (h : rowOk d l = true) (hd : deepL l + e ≤ 61) : rowOk e l = true := by
  rw [← rowOk_eq, Bool.and_eq_true] at h ⊢
  exact ⟨decide_eq_true (by have := deepL_pos l; omega), stsOk_at d e l h.2 hd⟩

mutual
theorem stOk_deep (d : Nat) : ∀ s : St5, stOk d s = true → d ≤ 60 → deepS s + d ≤ 61
  | .mk k pos nm ty p rv op ht th he el ha ar, h, hd => by
    by_cases h2 : k = 2
    · subst h2
      rw [stOk_2] at h
      rw [deepS, if_pos (by decide)]
      simp only [Bool.and_eq_true] at h
      obtain ⟨⟨⟨a, b⟩, c⟩, f⟩ := h
      rw [← rowOk_eq, Bool.and_eq_true, decide_eq_true_eq] at b c
      have e1 := stsOk_deep (d + 1) th b.2 b.1
      have e2 := stsOk_deep (d + 1) el c.2 c.1
      omega
    by_cases h3 : k = 3
    · subst h3
      rw [stOk_3] at h
      rw [deepS, if_pos (by decide)]
      simp only [Bool.and_eq_true] at h
      obtain ⟨⟨a, b⟩, f⟩ := h
      rw [← rowOk_eq, Bool.and_eq_true, decide_eq_true_eq] at b
      obtain ⟨-, rfl, -⟩ := stEq_empty3 f
      have e1 := stsOk_deep (d + 1) th b.2 b.1
      rw [deepL]
      have := b.1
      omega
    by_cases h4 : k = 4
    · subst h4
      rw [stOk_4] at h
      rw [deepS, if_neg (by decide), if_pos rfl]
      simp only [Bool.and_eq_true] at h
      obtain ⟨⟨a, b⟩, f⟩ := h
      rw [← armsOk_eq] at b
      have := armsOk_deep (d + 1) ar b (by omega)
      omega
    rw [deepS, if_neg (by simp [h2, h3]), if_neg h4]
    omega
theorem stsOk_deep (d : Nat) : ∀ l : List St5, stsOk d l = true → d ≤ 60 → deepL l + d ≤ 61
  | [], _, hd => by rw [deepL]; omega
  | s :: r, h, hd => by
    rw [stsOk, Bool.and_eq_true] at h
    rw [deepL]
    have e1 := stOk_deep d s h.1 hd
    have e2 := stsOk_deep d r h.2 hd
    omega
theorem arOk_deep (d : Nat) : ∀ a : Ar5, arOk d a = true → deepR a + d ≤ 61
  | .mk vr bi h0 body, h => by
    rw [arOk] at h
    rw [deepR]
    simp only [Bool.and_eq_true, decide_eq_true_eq] at h
    exact stsOk_deep d body h.2.2 h.2.1
theorem armsOk_deep (d : Nat) : ∀ l : List Ar5, armsOk d l = true → d ≤ 61 → deepA l + d ≤ 62
  | [], _, hd => by rw [deepA]; omega
  | s :: r, h, hd => by
    rw [armsOk, Bool.and_eq_true] at h
    rw [deepA]
    have e1 := arOk_deep d s h.1
    have e2 := armsOk_deep d r h.2 hd
    omega
end
theorem rowOk_deep {d : Nat} {l : List St5} (h : rowOk d l = true) : deepL l + d ≤ 61 := by
  rw [← rowOk_eq, Bool.and_eq_true, decide_eq_true_eq] at h
  exact stsOk_deep d l h.2 h.1
theorem rowOk_up {d e : Nat} {l : List St5} (h : rowOk d l = true) (he : e ≤ d) : rowOk e l = true := rowOk_at h (by have := rowOk_deep h; omega)

/-- A while round it. -/
def whileW (hd : Hd) (l : List St5) : St5 := .mk 3 0 ⟨#[]⟩ tyZ plZ rvZ ⟨true, 1, plZ⟩ hd l z0 [] z0 []
theorem rowOk_while (d : Nat) (hd : Hd) (l : List St5) : rowOk d [whileW hd l] = rowOk (d + 1) l := by
  have e0 : rowOk d [whileW hd l] = (decide (d ≤ 60) && stOk d (whileW hd l)) := by rw [rowOk, List.all_cons, List.all_nil, Bool.and_true]
  have e1 : opOk ⟨true, 1, plZ⟩ = true := by decide
  have e2 : stEq (.mk 3 0 ⟨#[]⟩ tyZ plZ rvZ opZ z0 [] z0 [] z0 []) (stZ 3) = true := by decide +kernel
  rw [e0, whileW, stOk_3, e1, e2, Bool.true_and, Bool.and_true]
  by_cases h : d ≤ 60
  · rw [decide_eq_true h, Bool.true_and]
  · rw [decide_eq_false h, Bool.false_and, rowOk, decide_eq_false (by omega), Bool.false_and]
end Go.Proofs.YtgogdcpgfmndnaaGreatDoor
