/-
  A spot one step further in: what type it has, by the type of the spot. No conditions: laws.
-/
import Derived.Test.YtghkbihgdabamaaGreatDoorJQSett
import Derived.Test.YtghkbihgdabamaaGreatDoorJQUsP
import Derived.Test.YtghkbihgdabamaaGreatDoorJQChain
namespace Go.Proofs.YtghkbihgdabamaaGreatDoor
open Go.RowKit

/-- what a spot one step further in is -/
def stR (s : So5) (n : Nat) (R : Option (Ty5 × Bool)) (z : Int) : Option (Ty5 × Bool) := match R with
  | some r => (match intoR s n r.1 z with
    | some t => some (t, r.2 || kdT r.1 == 5)
    | none => none)
  | none => none
theorem pathR2_snoc (s : So5) (n : Nat) (z : Int) : ∀ (l : List Int) (t : Ty5) (sh : Bool), pathR2 s n t sh (l ++ [z]) = stR s n (pathR2 s n t sh l) z
  | [], t, sh => by
    rw [List.nil_append, pathR2, pathR2, stR]
    cases intoR s n t z with
    | none => rfl
    | some t' => first | rfl | simp only [pathR2]
  | y :: l, t, sh => by
    rw [List.cons_append, pathR2, pathR2]
    cases intoR s n t y with
    | none => rfl
    | some t' => exact pathR2_snoc s n z l t' _
theorem spotR_snoc (s : So5) (n : Nat) (b : Bo) (loc z : Int) (h h' : Hd) (l : List Int) : spotR s n b ⟨loc, h, l ++ [z]⟩ = stR s n (spotR s n b ⟨loc, h', l⟩) z := by
  unfold spotR
  dsimp only
  split
  · split
    · exact pathR2_snoc s n z l _ _
    · rfl
  · rfl
theorem intoR_down {s : So5} {n : Nat} {y t : Ty5} (h : intoR s n y (-1) = some t) : ∃ k nm hd x, y = .mk k nm hd [x] ∧ (k == 4 || (k == 5 || k == 6)) = true ∧ t = erTy x := by
  obtain ⟨k, nm, hd, l⟩ := y
  rw [intoR] at h
  split at h
  · rename_i ha
    rw [if_pos rfl] at h
    rw [addrB, Bool.and_eq_true] at ha
    obtain ⟨h1, h2⟩ := ha
    match l, h2 with
    | [x], _ =>
      exact ⟨k, nm, hd, x, rfl, h1, (Option.some.inj h).symm⟩
    | [], h2 => exact absurd h2 (by decide)
    | _ :: _ :: l, h2 => simp at h2; omega
  · split at h
    · cases h
    · split at h
      · cases h
      · split at h
        · rw [if_neg (by unfold plB; simp)] at h
          cases h
        · cases h
theorem intoR_up {s : So5} {n : Nat} {y : Ty5} (h : intoR s n y (-1) = none) : addrB y = false := by
  obtain ⟨k, nm, hd, l⟩ := y
  cases ha : addrB (.mk k nm hd l) with
  | false => rfl
  | true =>
    rw [intoR, if_pos ha, if_pos rfl] at h
    rw [addrB, Bool.and_eq_true] at ha
    cases l with
    | nil => exact absurd ha.2 (by decide)
    | cons x l => cases h
theorem intoR_field {s : So5} {n : Nat} {z k : Int} {nm : ByteArray} {hd : Hd} {l : List Ty5} {t : Ty5} (hz : z ≠ -1) (h : intoR s n (.mk k nm hd l) z = some t) : k = 2 ∧ 0 ≤ z := by
  rw [intoR] at h
  split at h
  · first | (rw [if_neg hz] at h; cases h) | cases h
  · split at h
    · cases h
    · rename_i hk
      split at h
      · cases h
      · split at h
        · split at h
          · rename_i hp
            unfold plB at hp
            simp only [Bool.and_eq_true, decide_eq_true_eq] at hp
            exact ⟨by simpa using hk, hp.1⟩
          · cases h
        · cases h
theorem stR_er {s : So5} {n : Nat} {y : Ty5} {sh : Bool} {z : Int} {r : Ty5 × Bool} (h1 : erTy y = r.1) (h2 : sh = r.2) : stR s n (some r) z = match intoR s n y z with
    | some t => some (t, sh || kdT y == 5)
    | none => none := by
  rw [stR, ← h1, intoR_er, kdT_er, h2]
mutual
theorem tyEq_self : ∀ t, tyEq t t = true
  | .mk k nm h l => by rw [tyEq, tysEq_self l]; simp
theorem tysEq_self : ∀ l, tysEq l l = true
  | [] => rfl
  | x :: l => by rw [tysEq, tyEq_self x, tysEq_self l]; rfl
end
theorem intC_one : ∀ z, ∀ u ∈ intC z, u.oneCell' = true := by
  intro z u hu
  simp [intC] at hu
  rw [hu]
  rfl

end Go.Proofs.YtghkbihgdabamaaGreatDoor
