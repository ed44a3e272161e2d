/-
  Plain lemmas for the statements of mir: what a valid body's spots have as types. No conditions.
-/
import Derived.Test.YtmcjeicdjneinaaGreatDoorJQMVal
import Derived.Test.YtmcjeicdjneinaaGreatDoorJQValid
namespace Go.Proofs.YtmcjeicdjneinaaGreatDoor
open Go.RowKit

mutual
/-- a type that is one: no unit, at no depth of boxes and references -/
def goodT : Ty5 → Bool
  | .mk k _ _ l => !(k == 0) && (!aroundB k || goodTs l)
def goodTs : List Ty5 → Bool
  | [] => true
  | x :: l => goodT x && goodTs l
end
mutual
theorem goodT_er : ∀ t, goodT (erTy t) = goodT t
  | .mk k nm h l => by rw [erTy, goodT, goodT, goodTs_er l]
theorem goodTs_er : ∀ l, goodTs (erTys l) = goodTs l
  | [] => by rw [erTys]
  | x :: l => by rw [erTys, goodTs, goodTs, goodT_er x, goodTs_er l]
end
theorem goodT_kd {t : Ty5} (h : goodT t = true) : kdT t ≠ 0 := by
  cases t with | mk k nm hh l =>
  rw [goodT] at h
  simp only [Bool.and_eq_true, Bool.not_eq_true', beq_eq_false_iff_ne] at h
  exact h.1
theorem goodT_resO (s : So5) : ∀ (n : Nat) (t : Ty5), (resO s n t).1 = 0 → goodT (resO s n t).2 = true
  | 0, t, h => absurd (show (80 : Int) = 0 from h) (by decide)
  | n + 1, .mk k nm hh l, h => by
    cases ha : aroundB k with
    | true =>
      by_cases hl : l.length = 1
      · obtain ⟨x, rfl⟩ : ∃ x, l = [x] := List.length_eq_one_iff.1 hl
        rw [resO_one ha] at h ⊢
        have := goodT_resO s n x h
        rw [goodT, goodTs, goodTs, this, ha]
        have hk : k ≠ 0 := by
          rintro rfl
          exact absurd ha (by decide)
        simp [hk]
      · exact absurd ((resO_bad ha hl).symm.trans h) (by decide)
    | false =>
      rw [resO_in ha] at h ⊢
      have hk : (innerO s (.mk k nm hh l)).1 ≠ 0 := by
        intro h0
        unfold innerO at h h0
        dsimp only at h h0
        by_cases h1 : k = 1
        · rw [if_pos h1] at h0
          exact absurd (show (1 : Int) = 0 from h0) (by decide)
        · rw [if_neg h1] at h h0
          by_cases h2 : k = 2 ∨ k = 3 ∨ k = 7
          · rw [if_pos h2] at h h0
            by_cases h3 : (meantO s (.mk k nm hh l)).2 ≥ 0
            · rw [if_pos h3] at h0
              have hm : (meantO s (.mk k nm hh l)).1 = 3 ∨ (meantO s (.mk k nm hh l)).1 = k := by
                unfold meantO
                dsimp only
                by_cases h4 : k = 2 ∧ placeO s k nm < 0
                · rw [if_pos h4]; exact .inl rfl
                · rw [if_neg h4]; exact .inr rfl
              have h0' : (meantO s (.mk k nm hh l)).1 = 0 := h0
              omega
            · rw [if_neg h3] at h
              exact absurd (show (71 : Int) = 0 from h) (by decide)
          · rw [if_neg h2] at h
            exact absurd (show (80 : Int) = 0 from h) (by decide)
      have hna : aroundB (innerO s (.mk k nm hh l)).1 = false := by
        unfold innerO
        dsimp only
        by_cases h1 : k = 1
        · rw [if_pos h1]; rfl
        · rw [if_neg h1]
          by_cases h2 : k = 2 ∨ k = 3 ∨ k = 7
          · rw [if_pos h2]
            by_cases h3 : (meantO s (.mk k nm hh l)).2 ≥ 0
            · rw [if_pos h3]
              have hm : (meantO s (.mk k nm hh l)).1 = 3 ∨ (meantO s (.mk k nm hh l)).1 = k := by
                unfold meantO
                dsimp only
                by_cases h4 : k = 2 ∧ placeO s k nm < 0
                · rw [if_pos h4]; exact .inl rfl
                · rw [if_neg h4]; exact .inr rfl
              show aroundB (meantO s (.mk k nm hh l)).1 = false
              rcases hm with hm | hm
              · rw [hm]; rfl
              · rw [hm]; exact ha
            · rw [if_neg h3]; rfl
          · rw [if_neg h2]; rfl
      rw [goodT, hna]
      simp [hk]
mutual
theorem goodT_eq : ∀ {a b : Ty5}, tyEq a b = true → goodT a = goodT b
  | .mk k1 n1 h1 l1, .mk k2 n2 h2 l2, h => by
    rw [tyEq] at h
    simp only [Bool.and_eq_true, decide_eq_true_eq] at h
    have hl : tysEq l1 l2 = true := by first | exact h.2.2 | exact h.2 | exact h.1.2
    have hk : k1 = k2 := by first | exact h.1 | exact h.1.1 | exact h.1.1.1
    rw [goodT, goodT, hk, goodTs_eq hl]
theorem goodTs_eq : ∀ {a b : List Ty5}, tysEq a b = true → goodTs a = goodTs b
  | [], [], _ => rfl
  | [], _ :: _, h => by simp [tysEq] at h
  | _ :: _, [], h => by simp [tysEq] at h
  | x :: l, y :: m, h => by
    rw [tysEq] at h
    simp only [Bool.and_eq_true] at h
    rw [goodTs, goodTs, goodT_eq h.1, goodTs_eq h.2]
end
theorem local_good {s : So5} {n : Nat} {b : Bo} (h : localsB s n b = true) {lo : Lo} (hlo : lo ∈ b.locals) : goodT lo.ty = true := by
  have hall : b.locals.all (localB s n) = true := by
    unfold localsB at h
    split at h
    · cases h
    · unfold lastB at h
      split at h
      · simp only [Bool.and_eq_true] at h
        exact h.2.2
      · cases h
  have h1 := List.all_eq_true.1 hall lo hlo
  unfold localB isOfB at h1
  simp only [Bool.and_eq_true, beq_iff_eq] at h1
  rw [← goodT_er, goodT_eq h1.1.2]
  exact goodT_resO s n _ h1.1.1
theorem into_good {s : So5} {n : Nat} {t t' : Ty5} {z : Int} (ht : goodT t = true) (h : intoR s n t z = some t') : goodT t' = true := by
  cases t with | mk k nm hh l =>
  unfold intoR at h
  dsimp only at h
  by_cases ha : addrB (.mk k nm hh l) = true
  · rw [if_pos ha] at h
    by_cases hz : z = -1
    · rw [if_pos hz] at h
      cases l with
      | nil => cases h
      | cons x l =>
        have h2 := Option.some.inj h
        rw [← h2, goodT_er]
        rw [goodT, goodTs] at ht
        have hk : aroundB k = true := by
          unfold addrB at ha
          simp only [Bool.and_eq_true] at ha
          exact ha.1
        rw [hk] at ht
        simp only [Bool.and_eq_true, Bool.not_true, Bool.false_or] at ht
        exact ht.2.1
    · rw [if_neg hz] at h
      cases h
  · rw [if_neg ha] at h
    split at h
    · cases h
    · split at h
      · cases h
      · split at h
        · split at h
          · unfold fieldT at h
            split at h
            · split at h
              · rename_i h0
                rw [← Option.some.inj h]
                exact goodT_resO s n _ h0
              · cases h
            · cases h
          · cases h
        · cases h
theorem path_good {s : So5} {n : Nat} : ∀ (l : List Int) (t : Ty5) (sh : Bool) (r : Ty5 × Bool), goodT t = true → pathR2 s n t sh l = some r → goodT r.1 = true
  | [], t, sh, r, ht, h => by
    rw [pathR2] at h
    rw [← Option.some.inj h]
    exact ht
  | z :: l, t, sh, r, ht, h => by
    rw [pathR2] at h
    split at h
    · rename_i t' ht'
      exact path_good l t' _ r (into_good ht ht') h
    · cases h
theorem spot_good {s : So5} {n : Nat} {b : Bo} (h : localsB s n b = true) {x : Sp} {r : Ty5 × Bool} (hr : spotR s n b x = some r) : goodT r.1 = true := by
  unfold spotR at hr
  split at hr
  · split at hr
    · rename_i lo hlo
      exact path_good _ _ _ _ (by rw [goodT_er]; exact local_good h (List.mem_of_getElem? hlo)) hr
    · cases hr
  · cases hr
theorem valid_locals {s : So5} {n : Nat} {b : Bo} (h : validB s n b = true) : localsB s n b = true := by
  unfold validB at h
  simp only [Bool.and_eq_true] at h
  exact h.2.1
/-- a use by itself as a value -/
theorem val_use (s : So5) (n : Nat) (b : Bo) (hd : Hd) (u : Us) : valR s n b ⟨0, hd, [u], ⟨0, h0, []⟩, 0, 0⟩ = match useR s n b u with | some t => (0, t) | none => (84, ty0) := by
  have h1 : whichR s ⟨0, hd, [u], ⟨0, h0, []⟩, 0, 0⟩ = 0 := rfl
  have h2 : tagR s ⟨0, hd, [u], ⟨0, h0, []⟩, 0, 0⟩ = 0 := rfl
  have h3 : kindR 0 = 0 := rfl
  have h4 : madR s n b ⟨0, hd, [u], ⟨0, h0, []⟩, 0, 0⟩ = ofoR s n b ⟨0, hd, [u], ⟨0, h0, []⟩, 0, 0⟩ := by
    unfold madR
    rw [if_neg (show ¬ hasSpB 0 = true by decide)]
    unfold madN
    rw [if_pos (show noSpB ⟨0, h0, []⟩ = true from rfl)]
    unfold ofuR
    rw [if_pos (Or.inl rfl)]
  have h5 : ofoR s n b ⟨0, hd, [u], ⟨0, h0, []⟩, 0, 0⟩ = (usesR s n b (fun _ _ => true) 1 [u], (useR s n b u).getD ty0) := by
    unfold ofoR
    rw [if_pos (Or.inl rfl)]
    rfl
  have h6 : usesR s n b (fun _ _ => true) 1 [u] = match useR s n b u with | some _ => 0 | none => 84 := by
    unfold usesR
    rw [if_pos (by rfl), usesG]
    cases useR s n b u with
    | none => rfl
    | some t => rfl
  unfold valR
  rw [h1, h2, h4, h5, h6, if_neg (fun h => h rfl), if_neg (fun h => h rfl)]
  show (if kindR 0 ≠ 0 then _ else _) = _
  rw [h3, if_neg (fun h => h rfl)]
  cases useR s n b u with
  | none => rw [if_pos (show (84 : Int) ≠ 0 by decide)]
  | some t => rw [if_neg (fun h => h rfl)]; rfl
theorem useR_N {s : So5} (hs : SoN s) {b : Bo} (hb : BoN b) {n : Nat} {u : Us} {t : Ty5} (h : useR s n b u = some t) : tyN t ≤ 1000000 := by
  unfold useR at h
  split at h
  · split at h
    · cases h
    · rw [← Option.some.inj h]
      simp only [tyN, tysN]
      omega
  · cases hr : spotR s n b u.s with
    | none => rw [hr] at h; cases h
    | some r =>
      rw [hr] at h
      unfold useO at h
      dsimp only at h
      split at h
      · cases h
      · rw [← Option.some.inj h]
        exact spotR_tyN hs hb hr
theorem val_use_N {s : So5} (hs : SoN s) {b : Bo} (hb : BoN b) (n : Nat) (hd : Hd) (u : Us) : tyN (valR s n b ⟨0, hd, [u], ⟨0, h0, []⟩, 0, 0⟩).2 ≤ 1000000 := by
  rw [val_use]
  cases h : useR s n b u with
  | none => simp only [ty0, tyN, tysN]; omega
  | some t => exact useR_N hs hb h
end Go.Proofs.YtmcjeicdjneinaaGreatDoor
