/-
  What each rule sees of the rest of the tokens; two rows of items one behind the other; a row that is cut off. Plain lemmas on the model; no conditions.
-/
import Derived.Test.YtghkbihgdabamaaGreatDoorKPSimR
namespace Go.Proofs.YtghkbihgdabamaaGreatDoor

theorem rep_map {α β : Type} {c s : Bool} {R : Rd α} (f : α → β) (h : Rep c s R) (he : s = true ∨ s = false) : Rep c s (mapR R f) :=
  rep_bind h (c2 := true) (s2 := true) (fun _ => rep_pure _) (fun hc => ⟨rfl, .inl hc⟩) (fun hs => ⟨rfl, .inl hs⟩) fun _ a => onE_pure _
theorem onE_map {α β : Type} {s : Bool} {R : Rd α} (f : α → β) (h : OnE s R) : OnE s (mapR R f) := onE_bind h fun hs _ => hs ▸ onE_pure _
theorem con_map {α β : Type} {R : Rd α} (f : α → β) (h : Con R) : Con (mapR R f) := con_bind h fun _ => len_pure _
/-- what is asked of a rule: loose or tight; it takes something; on an end it tells a fault -/
structure Ru1 {α : Type} (c s : Bool) (R : Rd α) : Prop where
  rep : Rep c s R
  onE : OnE true R
  con : Con R
theorem Ru1.weak {α : Type} {R : Rd α} (h : Ru1 true true R) : Ru1 false false R := ⟨h.rep.weak (fun h => by cases h) (fun h => by cases h), h.onE, h.con⟩
theorem Ru1.map {α β : Type} {c s : Bool} {R : Rd α} (h : Ru1 c s R) (f : α → β) : Ru1 c s (mapR R f) := ⟨rep_map f h.rep (by cases s <;> simp), onE_map f h.onE, con_map f h.con⟩
/-- behind it nothing, or something loose -/
theorem Ru1.bind {α β : Type} {c s : Bool} {R : Rd α} {F : α → Rd β} (h : Ru1 true true R) (hF : ∀ a, Rep c s (F a)) (hl : ∀ a, Len (F a)) : Ru1 c s (bindR R F) :=
  ⟨rep_bind h.rep hF (fun hc => ⟨hc, .inl rfl⟩) (fun hs => ⟨hs, .inl rfl⟩) (fun h => by cases h), onE_bind h.onE (fun h => by cases h), con_bind h.con hl⟩
theorem is_cons {α : Type} (f : Tok → Bool) (yes no : Rd α) (t : Tok) (l : List Tok) : isR f yes no (t :: l) = if f t then yes (t :: l) else no (t :: l) := rfl
theorem rep_is {α : Type} {c s : Bool} {f : Tok → Bool} (hf : ∀ t, dead t → f t = false) {yes no : Rd α} (hy : Rep c s yes) (hyc : Con yes) (hn : Rep c s no) (hnc : Con no) (he : OnE s no) : Rep c s (isR f yes no) :=
  ⟨fun l y a r hg h => by
    cases l with
    | nil =>
      have hend : ∀ e, dead e → isR f yes no ([] ++ [e]) = no [e] := fun e h1 => by
        rw [List.nil_append, is_cons, if_neg (by rw [hf e h1]; decide)]
      have key : ∀ {R : Rd α}, Rep c s R → Con R → R ([] ++ y) = .ok a r → ∃ b, b ≠ [] ∧ y = b ++ r ∧ Good r := fun {R} hR hC h1 => by
        rcases hR.rep [] y a r hg h1 with ⟨b, l2, e1, e2, _⟩ | ⟨b, e1, e2, e3, _⟩
        · obtain ⟨rfl, rfl⟩ : b = [] ∧ l2 = [] := by simpa using e1.symm
          have := hC _ _ _ h1
          rw [e2] at this
          simp at this
        · exact ⟨b, e1, e2, e3⟩
      have h2 : ∃ b, b ≠ [] ∧ y = b ++ r ∧ Good r := by
        unfold isR at h
        split at h
        · exact key hy hyc h
        · exact key hn hnc h
      obtain ⟨b, e1, e2, e3⟩ := h2
      exact .inr ⟨b, e1, e2, e3, fun e h1 => by rw [hend e h1]; exact he e h1⟩
    | cons t l =>
      have hz : ∀ z, isR f yes no (t :: l ++ z) = if f t then yes (t :: l ++ z) else no (t :: l ++ z) := fun z => rfl
      rw [hz] at h
      by_cases ht : f t = true
      · rw [if_pos ht] at h
        rcases hy.rep (t :: l) y a r hg h with ⟨b, l2, e1, e2, e3⟩ | ⟨b, e1, e2, e3, e4⟩
        · exact .inl ⟨b, l2, e1, e2, fun z h1 h2 => by rw [hz, if_pos ht]; exact e3 z h1 h2⟩
        · exact .inr ⟨b, e1, e2, e3, fun e h1 => by rw [hz, if_pos ht]; exact e4 e h1⟩
      · rw [if_neg ht] at h
        rcases hn.rep (t :: l) y a r hg h with ⟨b, l2, e1, e2, e3⟩ | ⟨b, e1, e2, e3, e4⟩
        · exact .inl ⟨b, l2, e1, e2, fun z h1 h2 => by rw [hz, if_neg ht]; exact e3 z h1 h2⟩
        · exact .inr ⟨b, e1, e2, e3, fun e h1 => by rw [hz, if_neg ht]; exact e4 e h1⟩⟩
theorem Ru1.is {α : Type} {c s : Bool} {f : Tok → Bool} (hf : ∀ t, dead t → f t = false) {yes no : Rd α} (hy : Rep c s yes) (hyc : Con yes) (hn : Ru1 c s no) : Ru1 c s (isR f yes no) :=
  ⟨rep_is hf hy hyc hn.rep hn.con hn.onE.weak, fun e he => by
    rw [is_cons, if_neg (by rw [hf e he]; decide)]
    exact hn.onE e he, fun l a r h => by
    unfold isR at h
    split at h
    · exact hyc _ _ _ h
    · exact hn.con _ _ _ h⟩
theorem Ru1.at {α : Type} {c s : Bool} {F : Nat → Rd α} (h : ∀ p, Ru1 c s (F p)) : Ru1 c s (atR F) :=
  ⟨⟨fun l y a r hg h1 => by
    cases l with
    | nil =>
      rcases (h _).rep.rep [] y a r hg h1 with ⟨b, l2, e1, e2, _⟩ | ⟨b, e1, e2, e3, _⟩
      · obtain ⟨rfl, rfl⟩ : b = [] ∧ l2 = [] := by simpa using e1.symm
        have := (h _).con _ _ _ h1
        rw [e2] at this
        simp at this
      · exact .inr ⟨b, e1, e2, e3, fun e h2 => ((h _).onE e h2).elim .inl fun h3 => by cases h3.1⟩
    | cons t l =>
      rcases (h t.pos).rep.rep (t :: l) y a r hg h1 with ⟨b, l2, e1, e2, e3⟩ | ⟨b, e1, e2, e3, e4⟩
      · exact .inl ⟨b, l2, e1, e2, e3⟩
      · exact .inr ⟨b, e1, e2, e3, e4⟩⟩, fun e he => (h _).onE e he, fun l a r h1 => (h _).con _ _ _ h1⟩

theorem Ru1.any {α : Type} {c s : Bool} {R : Rd α} (h : Ru1 c s R) : Ru1 false false R := ⟨h.rep.weak (fun h => by cases h) (fun h => by cases h), h.onE, h.con⟩
end Go.Proofs.YtghkbihgdabamaaGreatDoor
