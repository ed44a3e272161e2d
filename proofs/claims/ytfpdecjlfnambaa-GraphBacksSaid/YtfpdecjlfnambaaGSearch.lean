/-
  Graph: what a search by a queue comes to, as plain things. No conditions: definitions and lemmas.
-/
import Derived.Test.YtfpdecjlfnambaaGSettle
namespace Go.Proofs.Ytfpdecjlfnambaa

/-- What is so where it is known first: where it begins so; where a block comes from that leaves it so whatever comes, or leaves what comes, and it comes so. -/
inductive Sp (ok : Nat → Prop) (base : Nat → Prop) (next : Nat → List Nat) (lvs : Nat → Bool → Bool) : Nat → Prop
  | base {i : Nat} : ok i → base i → Sp ok base next lvs i
  | all {p t : Nat} : ok p → lvs p false = true → t ∈ next p → Sp ok base next lvs t
  | pass {p t : Nat} : ok p → Sp ok base next lvs p → lvs p true = true → t ∈ next p → Sp ok base next lvs t

section
variable (L : Nat) (ok base : Nat → Prop) (next : Nat → List Nat) (lvs : Nat → Bool → Bool)

/-- While a block's goings are looked at. -/
structure Part (f : Nat → Bool) (Q : List Nat) (x k : Nat) : Prop where
  sound : ∀ i, ok i → f i = true → Sp ok base next lvs i
  base : ∀ i, ok i → base i → f i = true
  done : ∀ p, ok p → lvs p (f p) = true → p ∉ Q → p ≠ x → ∀ t ∈ next p, f t = true
  some : ∀ t ∈ (next x).take k, f t = true
  vis : lvs x (f x) = true
  okx : ok x
  queue : ∀ p ∈ Q, ok p ∧ lvs p (f p) = true
/-- Between two looks. -/
structure Full (f : Nat → Bool) (Q : List Nat) : Prop where
  sound : ∀ i, ok i → f i = true → Sp ok base next lvs i
  base : ∀ i, ok i → base i → f i = true
  done : ∀ p, ok p → lvs p (f p) = true → p ∉ Q → ∀ t ∈ next p, f t = true
  queue : ∀ p ∈ Q, ok p ∧ lvs p (f p) = true
def cnt (f : Nat → Bool) : Nat := ((List.range L).filter fun i => !(lvs i (f i))).length
end

variable {L : Nat} {ok base : Nat → Prop} {next : Nat → List Nat} {lvs : Nat → Bool → Bool}

theorem Full.open {f : Nat → Bool} {Q : List Nat} {x : Nat} (h : Full ok base next lvs f (x :: Q)) : Part ok base next lvs f Q x 0 :=
  ⟨h.sound, h.base, fun p hp hl hq hx => h.done p hp hl (fun hm => (List.mem_cons.1 hm).elim hx hq), by simp, (h.queue x (by simp)).2, (h.queue x (by simp)).1, fun p hp => h.queue p (by simp [hp])⟩
theorem Part.close {f : Nat → Bool} {Q : List Nat} {x : Nat} (h : Part ok base next lvs f Q x (next x).length) : Full ok base next lvs f Q :=
  ⟨h.sound, h.base, fun p hp hl hq => by
    by_cases e : p = x
    · subst e
      have := h.some
      rwa [List.take_length] at this
    · exact h.done p hp hl hq e, h.queue⟩
theorem Full.all {f : Nat → Bool} (h : Full ok base next lvs f []) (hmono : ∀ p, lvs p false = true → lvs p true = true) : ∀ i, ok i → (f i = true ↔ Sp ok base next lvs i) := fun i hi => by
  refine ⟨h.sound i hi, fun hs => ?_⟩
  induction hs with
  | base h1 h2 => exact h.base _ h1 h2
  | @all p t h1 h2 h3 =>
    refine h.done _ h1 ?_ (by simp) _ h3
    cases hf : f p
    · exact h2
    · exact hmono _ h2
  | @pass p t h1 h2 h3 h4 ih => exact h.done _ h1 (by rw [ih h1]; exact h3) (by simp) _ h4

def upB (f : Nat → Bool) (t : Nat) : Nat → Bool := fun i => if i = t then true else f i
theorem lvs_up (hmono : ∀ p, lvs p false = true → lvs p true = true) {f : Nat → Bool} {t p : Nat} (h : lvs p (f p) = true) : lvs p (upB f t p) = true := by
  unfold upB
  split
  · cases hf : f p
    · rw [hf] at h
      exact hmono _ h
    · rw [hf] at h
      exact h
  · exact h
theorem up_of {f : Nat → Bool} {t i : Nat} (h : f i = true) : upB f t i = true := by
  unfold upB
  split
  · rfl
  · exact h

theorem Part.step {f : Nat → Bool} {Q : List Nat} {x k t : Nat} (h : Part ok base next lvs f Q x k) (hk : k < (next x).length) (ht : t = (next x)[k]) (hmono : ∀ p, lvs p false = true → lvs p true = true) (hto : ok t) (Q' : List Nat)
    (hQ : Q' = if lvs t true = lvs t (f t) then Q else Q ++ [t]) : Part ok base next lvs (upB f t) Q' x (k + 1) := by
  have hmem : t ∈ next x := ht ▸ List.getElem_mem hk
  have hsub : ∀ p, p ∈ Q → p ∈ Q' := fun p hp => by
    rw [hQ]
    split
    · exact hp
    · exact List.mem_append_left _ hp
  refine ⟨fun i hi hf => ?_, fun i hi hb => up_of (h.base i hi hb), fun p hp hl hq hx u hu => ?_, fun u hu => ?_, lvs_up hmono h.vis, h.okx, fun p hp => ?_⟩
  · unfold upB at hf
    split at hf
    · rename_i e
      subst e
      have hv := h.vis
      cases hfx : f x with
      | false =>
        rw [hfx] at hv
        exact .all h.okx hv hmem
      | true =>
        rw [hfx] at hv
        exact .pass h.okx (h.sound x h.okx hfx) hv hmem
    · exact h.sound i hi hf
  · refine up_of ?_
    by_cases e : lvs p (f p) = true
    · exact h.done p hp e (fun hm => hq (hsub p hm)) hx u hu
    · exfalso
      have hpt : p = t := by
        by_cases e2 : p = t
        · exact e2
        · unfold upB at hl
          rw [if_neg e2] at hl
          exact absurd hl e
      subst hpt
      unfold upB at hl
      rw [if_pos rfl] at hl
      refine hq ?_
      rw [hQ, if_neg (fun e3 => e (e3.symm.trans hl))]
      simp
  · rcases (mem_take_succ hk u).1 hu with h1 | h1
    · exact up_of (h.some u h1)
    · unfold upB
      rw [if_pos (h1.trans ht.symm)]
  · have hor : p ∈ Q ∨ (p = t ∧ lvs t true = true) := by
      rw [hQ] at hp
      split at hp
      · exact .inl hp
      · rename_i e
        rcases List.mem_append.1 hp with h1 | h1
        · exact .inl h1
        · refine .inr ⟨by simpa using h1, ?_⟩
          cases h2 : lvs t true
          · exfalso
            apply e
            cases hf : f t
            · cases h3 : lvs t false
              · exact h2
              · exact absurd (hmono t h3) (by simp [h2])
            · rfl
          · rfl
    rcases hor with h1 | ⟨rfl, h2⟩
    · exact ⟨(h.queue p h1).1, lvs_up hmono (h.queue p h1).2⟩
    · exact ⟨hto, by unfold upB; rw [if_pos rfl]; exact h2⟩

theorem filter_le {α : Type} (p q : α → Bool) : ∀ (l : List α), (∀ a ∈ l, q a = true → p a = true) → (l.filter q).length ≤ (l.filter p).length
  | [], _ => by simp
  | c :: l, h => by
    have := filter_le p q l (fun a ha => h a (by simp [ha]))
    have hc := h c (by simp)
    cases hq : q c
    · cases hp : p c <;> simp [hq, hp] <;> omega
    · simp [hq, hc hq]
      omega
theorem cnt_up (hmono : ∀ p, lvs p false = true → lvs p true = true) (f : Nat → Bool) (t : Nat) : cnt L lvs (upB f t) ≤ cnt L lvs f := by
  refine filter_le _ _ _ fun i _ hi => ?_
  cases h : lvs i (f i)
  · rfl
  · rw [lvs_up hmono h] at hi
    exact hi
theorem filter_lt {α : Type} (p q : α → Bool) : ∀ (l : List α), (∀ a ∈ l, q a = true → p a = true) → (∃ a ∈ l, p a = true ∧ q a = false) → (l.filter q).length < (l.filter p).length
  | [], _, h => by obtain ⟨a, ha, -⟩ := h; cases ha
  | b :: l, h1, h2 => by
    have hle := filter_le p q l (fun a ha => h1 a (by simp [ha]))
    obtain ⟨a, ha, hpa, hqa⟩ := h2
    rcases List.mem_cons.1 ha with rfl | ha
    · simp [hpa, hqa]
      omega
    · have ih := filter_lt p q l (fun a ha => h1 a (by simp [ha])) ⟨a, ha, hpa, hqa⟩
      have hb := h1 b (by simp)
      cases hq : q b
      · cases hp : p b <;> simp [hq, hp] <;> omega
      · simp [hq, hb hq]
        omega
theorem cnt_new (hmono : ∀ p, lvs p false = true → lvs p true = true) (f : Nat → Bool) (t : Nat) (ht : t < L) (hn : lvs t true ≠ lvs t (f t)) : cnt L lvs (upB f t) + 1 ≤ cnt L lvs f := by
  refine filter_lt _ _ _ (fun i _ hi => ?_) ⟨t, by simpa using ht, ?_, ?_⟩
  · cases h : lvs i (f i)
    · rfl
    · rw [lvs_up hmono h] at hi
      exact hi
  · cases h : lvs t (f t)
    · rfl
    · exfalso
      apply hn
      rw [h]
      cases hf : f t
      · rw [hf] at h
        exact hmono t h
      · rw [hf] at h
        exact h
  · unfold upB
    rw [if_pos rfl]
    cases h : lvs t true
    · exfalso
      apply hn
      rw [h]
      cases hf : f t
      · cases h3 : lvs t false
        · rfl
        · exact absurd (hmono t h3) (by simp [h])
      · exact h.symm
    · rfl

end Go.Proofs.Ytfpdecjlfnambaa
