/-
  Several texts of the proof in one: PTy, PRep, PSim, PSimR. No conditions of their own: each lemma states its own.
-/
import Derived.Test.YtghkbihgdabamaaGreatDoorKPRules
import Derived.Test.YtghkbihgdabamaaGreatDoorKPModel
namespace Go.Proofs.YtghkbihgdabamaaGreatDoor
open Go.RowKit

end Go.Proofs.YtghkbihgdabamaaGreatDoor

namespace Go.Proofs.YtghkbihgdabamaaGreatDoor

def dead (t : Tok) : Prop := t.k = 0 ∧ t.text = []
/-- a rest that ends with an end -/
def Good (y : List Tok) : Prop := ∃ y0 e, y = y0 ++ [e] ∧ dead e
theorem Good.ne {y : List Tok} (h : Good y) : y ≠ [] := by obtain ⟨a, b, rfl, _⟩ := h; simp
theorem Good.tail {t : Tok} {y : List Tok} (h : Good (t :: y)) (ht : ¬ dead t) : Good y := by
  obtain ⟨a, e, h1, h2⟩ := h
  cases a with
  | nil => simp at h1; exact absurd (h1.1 ▸ h2) ht
  | cons b a => simp at h1; exact ⟨a, e, h1.2, h2⟩
/-- c: whatever comes behind what it took does not matter; s: on an end it tells a fault -/
structure Rep {α : Type} (c s : Bool) (R : Rd α) : Prop where
  rep : ∀ (l y : List Tok) a r, Good y → R (l ++ y) = .ok a r →
    (∃ b l2, l = b ++ l2 ∧ r = l2 ++ y ∧ ∀ z, Good z → (l2 ≠ [] ∨ dead (hd z) ∨ c = true) → R (l ++ z) = .ok a (l2 ++ z)) ∨
    (∃ b, b ≠ [] ∧ y = b ++ r ∧ Good r ∧ ∀ e, dead e → R (l ++ [e]) = .no 60 e.pos ∨ (s = false ∧ ∃ a', R (l ++ [e]) = .ok a' [e]))
/-- what it comes to on an end -/
def OnE {α : Type} (s : Bool) (R : Rd α) : Prop := ∀ e, dead e → R [e] = .no 60 e.pos ∨ (s = false ∧ ∃ a', R [e] = .ok a' [e])
/-- it takes something -/
def Con {α : Type} (R : Rd α) : Prop := ∀ l a r, R l = .ok a r → r.length < l.length

theorem Rep.weak {α : Type} {c s c' s' : Bool} {R : Rd α} (h : Rep c s R) (hc : c' = true → c = true) (hs : s' = true → s = true) : Rep c' s' R :=
  ⟨fun l y a r hy h1 => by
    rcases h.rep l y a r hy h1 with ⟨b, l2, e1, e2, e3⟩ | ⟨b, e1, e2, e3, e4⟩
    · refine .inl ⟨b, l2, e1, e2, fun z hz hq => e3 z hz ?_⟩
      rcases hq with hq | hq | hq
      · exact .inl hq
      · exact .inr (.inl hq)
      · exact .inr (.inr (hc hq))
    · refine .inr ⟨b, e1, e2, e3, fun e he => ?_⟩
      rcases e4 e he with h5 | ⟨h5, h6⟩
      · exact .inl h5
      · refine .inr ⟨?_, h6⟩
        cases s' with
        | false => rfl
        | true => rw [hs rfl] at h5; cases h5⟩
theorem OnE.weak {α : Type} {s : Bool} {R : Rd α} (h : OnE true R) : OnE s R := fun e he => (h e he).elim .inl fun h => by cases h.1
theorem Good.one {e : Tok} (h : dead e) : Good [e] := ⟨[], e, rfl, h⟩

theorem rep_pure {α : Type} (a : α) : Rep true true (pureR a) :=
  ⟨fun l y b r _ h => by
    cases h
    exact .inl ⟨[], l, rfl, rfl, fun _ _ _ => rfl⟩⟩
theorem onE_pure {α : Type} (a : α) : OnE false (pureR a) := fun e _ => .inr ⟨rfl, a, rfl⟩
theorem rep_bind {α β : Type} {c s c1 s1 c2 s2 : Bool} {R : Rd α} {F : α → Rd β} (hR : Rep c1 s1 R) (hF : ∀ a, Rep c2 s2 (F a)) (hc : c = true → c2 = true ∧ (c1 = true ∨ ∀ a, Con (F a))) (hs : s = true → s2 = true ∧ (s1 = true ∨ ∀ a, OnE true (F a))) (he : s1 = false → ∀ a, OnE false (F a)) : Rep c s (bindR R F) :=
  ⟨fun l y a r hg h => by
    unfold bindR at h
    cases h1 : R (l ++ y) with
    | no e p => rw [h1] at h; cases h
    | ok a1 r1 =>
      rw [h1] at h
      simp only at h
      have hs' : ∀ {x : Bool}, s2 = false → s = false := fun {_} h2 => by
        cases s with
        | false => rfl
        | true => rw [(hs rfl).1] at h2; cases h2
      rcases hR.rep l y a1 r1 hg h1 with ⟨b, l1, rfl, rfl, e3⟩ | ⟨b, e1, rfl, e3, e4⟩
      · rcases (hF a1).rep l1 y a r hg h with ⟨b2, l2, rfl, rfl, f3⟩ | ⟨b2, f1, rfl, f3, f4⟩
        · refine .inl ⟨b ++ b2, l2, by simp, rfl, fun z hz hq => ?_⟩
          have hq1 : b2 ++ l2 ≠ [] ∨ dead (hd z) ∨ c1 = true := by
            rcases hq with hq | hq | hq
            · exact .inl (by simp [hq])
            · exact .inr (.inl hq)
            · rcases (hc hq).2 with h2 | h2
              · exact .inr (.inr h2)
              · refine .inl fun h3 => ?_
                have := h2 a1 _ _ _ h
                simp only [h3, List.nil_append] at this
                have h4 : l2 = [] := (List.append_eq_nil_iff.1 h3).2
                simp [h4] at this
          have hq2 : l2 ≠ [] ∨ dead (hd z) ∨ c2 = true := by
            rcases hq with hq | hq | hq
            · exact .inl hq
            · exact .inr (.inl hq)
            · exact .inr (.inr (hc hq).1)
          unfold bindR
          rw [e3 z hz hq1]
          exact f3 z hz hq2
        · refine .inr ⟨b2, f1, rfl, f3, fun e he1 => ?_⟩
          unfold bindR
          rw [e3 [e] (Good.one he1) (.inr (.inl he1))]
          rcases f4 e he1 with h2 | ⟨h2, h3⟩
          · exact .inl h2
          · exact .inr ⟨hs' (x := true) h2, h3⟩
      · have hend : ∀ e, dead e → bindR R F (l ++ [e]) = .no 60 e.pos ∨ (s = false ∧ ∃ a', bindR R F (l ++ [e]) = .ok a' [e]) := fun e he1 => by
          unfold bindR
          rcases e4 e he1 with h2 | ⟨h2, a', h3⟩
          · rw [h2]; exact .inl rfl
          · rw [h3]
            simp only
            rcases he h2 a' e he1 with h5 | ⟨_, h5⟩
            · exact .inl h5
            · refine .inr ⟨?_, h5⟩
              cases s with
              | false => rfl
              | true =>
                rcases (hs rfl).2 with h6 | h6
                · rw [h6] at h2; cases h2
                · rcases h6 a' e he1 with h7 | ⟨h7, _⟩
                  · obtain ⟨x, h5⟩ := h5; rw [h7] at h5; cases h5
                  · cases h7
        rcases (hF a1).rep [] r1 a r e3 h with ⟨b2, l2, f1, f2, _⟩ | ⟨b2, f1, rfl, f3, _⟩
        · obtain ⟨rfl, rfl⟩ : b2 = [] ∧ l2 = [] := by simpa using f1.symm
          simp only [List.nil_append] at f2
          subst f2
          exact .inr ⟨b, e1, rfl, e3, hend⟩
        · exact .inr ⟨b ++ b2, by simp [e1], by simp, f3, hend⟩⟩
theorem onE_bind {α β : Type} {s1 : Bool} {R : Rd α} {F : α → Rd β} (hR : OnE s1 R) {s : Bool} (hs : s1 = false → ∀ a, OnE s (F a)) : OnE s (bindR R F) := fun e he => by
  unfold bindR
  rcases hR e he with h | ⟨h, a, h2⟩
  · rw [h]; exact .inl rfl
  · rw [h2]; exact hs h a e he
def Len {α : Type} (R : Rd α) : Prop := ∀ l a r, R l = .ok a r → r.length ≤ l.length
theorem Con.len {α : Type} {R : Rd α} (h : Con R) : Len R := fun l a r e => Nat.le_of_lt (h l a r e)
theorem len_pure {α : Type} (a : α) : Len (pureR a) := fun l b r h => by cases h; exact Nat.le_refl _
theorem con_bind {α β : Type} {R : Rd α} {F : α → Rd β} (h : Con R) (hF : ∀ a, Len (F a)) : Con (bindR R F) := fun l a r e => by
  unfold bindR at e
  cases h1 : R l with
  | no _ _ => rw [h1] at e; cases e
  | ok a1 r1 => rw [h1] at e; exact Nat.lt_of_le_of_lt (hF a1 _ _ _ e) (h _ _ _ h1)
end Go.Proofs.YtghkbihgdabamaaGreatDoor

namespace Go.Proofs.YtghkbihgdabamaaGreatDoor

def alike (t u : Tok) : Prop := t.k = u.k ∧ t.text = u.text ∧ t.n = u.n
/-- two rows of tokens, alike one by one -/
inductive Alike : List Tok → List Tok → Prop
  | nil : Alike [] []
  | cons {t u : Tok} {l m : List Tok} : alike t u → Alike l m → Alike (t :: l) (u :: m)
theorem Alike.len {l m : List Tok} (h : Alike l m) : l.length = m.length := by
  induction h with
  | nil => rfl
  | cons _ _ ih => simp [ih]
theorem Alike.hd {l m : List Tok} (h : Alike l m) : alike (hd l) (Go.Proofs.YtghkbihgdabamaaGreatDoor.hd m) := by
  cases h with
  | nil => exact ⟨rfl, rfl, rfl⟩
  | cons h _ => exact h
theorem Alike.tail {l m : List Tok} (h : Alike l m) : Alike l.tail m.tail := by
  cases h with
  | nil => exact .nil
  | cons _ h => exact h
theorem Alike.drop {l m : List Tok} (h : Alike l m) (i : Nat) : Alike (l.drop i) (m.drop i) := by
  induction i with
  | zero => exact h
  | succ i ih => rw [← List.tail_drop, ← List.tail_drop]; exact ih.tail
theorem Good.pos {l : List Tok} (h : Good l) : 0 < l.length := List.length_pos_iff.2 h.ne

inductive All2 {α : Type} (E : α → α → Prop) : List α → List α → Prop
  | nil : All2 E [] []
  | cons {a b : α} {l m : List α} : E a b → All2 E l m → All2 E (a :: l) (b :: m)
theorem All2.map {α β : Type} {f : α → β} {l m : List α} (h : All2 (fun a b => f a = f b) l m) : l.map f = m.map f := by
  induction h with
  | nil => rfl
  | cons h1 _ ih => simp only [List.map_cons, h1, ih]
end Go.Proofs.YtghkbihgdabamaaGreatDoor

namespace Go.Proofs.YtghkbihgdabamaaGreatDoor

end Go.Proofs.YtghkbihgdabamaaGreatDoor
