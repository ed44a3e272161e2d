/-
  Several texts of the proof in one: PRep, PSim, PSimR, PRepR. No conditions of their own: each lemma states its own.
-/
import Derived.Test.YtggdpgaedmegbaaGreatDoorJLNum
namespace Go.Proofs.YtggdpgaedmegbaaGreatDoor

def dead (t : Tok) : Prop := t.k = 0 ∧ t.text = []
/-- a rest that ends with an end -/
def Good (y : List Tok) : Prop := ∃ y0 e, y = y0 ++ [e] ∧ dead e
theorem Good.ne {y : List Tok} (h : Good y) : y ≠ [] := by obtain ⟨a, b, rfl, _⟩ := h; simp
theorem Good.tail {t : Tok} {y : List Tok} (h : Good (t :: y)) (ht : ¬ dead t) : Good y := by
  obtain ⟨a, e, h1, h2⟩ := h
  cases a with
  | nil => simp at h1; exact absurd (h1.1 ▸ h2) ht
  | cons b a => simp at h1; exact ⟨a, e, h1.2, h2⟩
theorem hd_app {l y : List Tok} (h : l ≠ []) : hd (l ++ y) = hd l := by cases l with | nil => exact absurd rfl h | cons a l => rfl
theorem hd_cons (t : Tok) (l : List Tok) : hd (t :: l) = t := rfl

/-- c: whatever comes behind what it took does not matter; s: on an end it tells a fault -/
structure Rep {α : Type} (c s : Bool) (R : Rd α) : Prop where
  rep : ∀ (l y : List Tok) a r, Good y → R (l ++ y) = .ok a r →
    (∃ b l2, l = b ++ l2 ∧ r = l2 ++ y ∧ ∀ z, Good z → (l2 ≠ [] ∨ dead (hd z) ∨ c = true) → R (l ++ z) = .ok a (l2 ++ z)) ∨
    (∃ b, b ≠ [] ∧ y = b ++ r ∧ Good r ∧ ∀ e, dead e → R (l ++ [e]) = .no 60 e.pos ∨ (s = false ∧ ∃ a', R (l ++ [e]) = .ok a' [e]))
/-- what it comes to on an end -/
def OnE {α : Type} (s : Bool) (R : Rd α) : Prop := ∀ e, dead e → R [e] = .no 60 e.pos ∨ (s = false ∧ ∃ a', R [e] = .ok a' [e])
/-- it takes something -/
def Con {α : Type} (R : Rd α) : Prop := ∀ l a r, R l = .ok a r → r.length < l.length

theorem Rep.weak {α : Type} {c s c' s' : Bool} {R : Rd α} (h : Rep c s R) (hc : c' = true → c = true) (hs : s' = true → s = true) : Rep c' s' R :=
  ⟨fun l y a r hy h1 => by
    rcases h.rep l y a r hy h1 with ⟨b, l2, e1, e2, e3⟩ | ⟨b, e1, e2, e3, e4⟩
    · refine .inl ⟨b, l2, e1, e2, fun z hz hq => e3 z hz ?_⟩
      rcases hq with hq | hq | hq
      · exact .inl hq
      · exact .inr (.inl hq)
      · exact .inr (.inr (hc hq))
    · refine .inr ⟨b, e1, e2, e3, fun e he => ?_⟩
      rcases e4 e he with h5 | ⟨h5, h6⟩
      · exact .inl h5
      · refine .inr ⟨?_, h6⟩
        cases s' with
        | false => rfl
        | true => rw [hs rfl] at h5; cases h5⟩
theorem OnE.weak {α : Type} {s : Bool} {R : Rd α} (h : OnE true R) : OnE s R := fun e he => (h e he).elim .inl fun h => by cases h.1
theorem Good.one {e : Tok} (h : dead e) : Good [e] := ⟨[], e, rfl, h⟩

theorem rep_pure {α : Type} (a : α) : Rep true true (pureR a) :=
  ⟨fun l y b r _ h => by
    cases h
    exact .inl ⟨[], l, rfl, rfl, fun _ _ _ => rfl⟩⟩
theorem onE_pure {α : Type} (a : α) : OnE false (pureR a) := fun e _ => .inr ⟨rfl, a, rfl⟩
theorem rep_fail {α : Type} (e : Int) : Rep true true (failR (α := α) e) := ⟨fun l y b r _ h => by cases h⟩
theorem onE_fail {α : Type} {s : Bool} : OnE s (failR (α := α) 60) := fun _ _ => .inl rfl
theorem one_cons (f : Tok → Bool) (t : Tok) (l : List Tok) : oneR f (t :: l) = if f t then .ok t l else .no 60 t.pos := rfl
theorem opt_cons {α : Type} (w : List UInt8) (yes no : Rd α) (t : Tok) (l : List Tok) : optR w yes no (t :: l) = if t.text = w then yes l else no (t :: l) := rfl
theorem rep_one {f : Tok → Bool} (hf : ∀ t, dead t → f t = false) : Rep true true (oneR f) :=
  ⟨fun l y a r hy h => by
    cases l with
    | nil =>
      cases y with
      | nil => exact absurd rfl hy.ne
      | cons t y =>
        rw [List.nil_append, one_cons] at h
        by_cases ht : f t = true
        · rw [if_pos ht] at h
          cases h
          refine .inr ⟨[a], by simp, rfl, hy.tail fun hd => ?_, fun e he => .inl ?_⟩
          · rw [hf a hd] at ht; cases ht
          · rw [List.nil_append, one_cons, if_neg (by rw [hf e he]; decide)]
        · rw [if_neg ht] at h; cases h
    | cons t l =>
      rw [List.cons_append, one_cons] at h
      by_cases ht : f t = true
      · rw [if_pos ht] at h
        cases h
        refine .inl ⟨[a], l, rfl, rfl, fun z _ _ => ?_⟩
        rw [List.cons_append, one_cons, if_pos ht]
      · rw [if_neg ht] at h; cases h⟩
theorem onE_one {f : Tok → Bool} {s : Bool} (hf : ∀ t, dead t → f t = false) : OnE s (oneR f) := fun e he => .inl (by rw [one_cons, if_neg (by rw [hf e he]; decide)])
theorem con_one (f : Tok → Bool) (hf : f lastT = false) : Con (oneR f) := fun l a r h => by
  cases l with
  | nil =>
    rw [show oneR f [] = if f lastT then .ok lastT [] else .no 60 lastT.pos from rfl, if_neg (by rw [hf]; decide)] at h
    cases h
  | cons t l =>
    rw [one_cons] at h
    by_cases ht : f t = true
    · rw [if_pos ht] at h; cases h; simp
    · rw [if_neg ht] at h; cases h

theorem not_dead {t : Tok} {s : List UInt8} (hs : s ≠ []) (ht : t.text = s) : ¬ dead t := fun h => hs (ht ▸ h.2)
theorem rep_opt {α : Type} {c s : Bool} {w : List UInt8} {yes no : Rd α} (hw : w ≠ []) (hy : Rep c s yes) (hn : Rep c s no) (he : OnE s no) (hc : c = true → Con no) : Rep c s (optR w yes no) :=
  ⟨fun l y a r hg h => by
    cases l with
    | nil =>
      cases y with
      | nil => exact absurd rfl hg.ne
      | cons t y =>
        rw [List.nil_append, opt_cons] at h
        have hend : ∀ e, dead e → optR w yes no ([] ++ [e]) = no [e] := fun e h1 => by
          rw [List.nil_append, opt_cons, if_neg fun h2 => not_dead hw h2 h1]
        by_cases ht : t.text = w
        · rw [if_pos ht] at h
          have hg' := hg.tail (not_dead hw ht)
          refine .inr ?_
          rcases hy.rep [] y a r hg' h with ⟨b, l2, e1, e2, _⟩ | ⟨b, e1, e2, e3, _⟩
          · obtain ⟨rfl, rfl⟩ : b = [] ∧ l2 = [] := by simpa using e1.symm
            simp only [List.nil_append] at e2
            subst e2
            exact ⟨[t], by simp, rfl, hg', fun e h1 => by rw [hend e h1]; exact he e h1⟩
          · exact ⟨t :: b, by simp, by rw [e2]; rfl, e3, fun e h1 => by rw [hend e h1]; exact he e h1⟩
        · rw [if_neg ht] at h
          rcases hn.rep [] (t :: y) a r hg h with ⟨b, l2, e1, e2, e3⟩ | ⟨b, e1, e2, e3, e4⟩
          · obtain ⟨rfl, rfl⟩ : b = [] ∧ l2 = [] := by simpa using e1.symm
            refine .inl ⟨[], [], rfl, e2, fun z hz hq => ?_⟩
            rcases hq with hq | hq | hq
            · exact absurd rfl hq
            · have := e3 z hz (.inr (.inl hq))
              simp only [List.nil_append] at this ⊢
              unfold optR
              rw [if_neg fun h2 => not_dead hw h2 hq]
              exact this
            · have := hc hq _ _ _ h
              rw [e2] at this
              simp at this
          · exact .inr ⟨b, e1, e2, e3, fun e h1 => by rw [hend e h1]; exact he e h1⟩
    | cons t l =>
      rw [List.cons_append, opt_cons] at h
      by_cases ht : t.text = w
      · rw [if_pos ht] at h
        have hz : ∀ z, optR w yes no (t :: l ++ z) = yes (l ++ z) := fun z => by rw [List.cons_append, opt_cons, if_pos ht]
        rcases hy.rep l y a r hg h with ⟨b, l2, e1, e2, e3⟩ | ⟨b, e1, e2, e3, e4⟩
        · exact .inl ⟨t :: b, l2, by rw [e1]; rfl, e2, fun z h1 h2 => by rw [hz]; exact e3 z h1 h2⟩
        · exact .inr ⟨b, e1, e2, e3, fun e h1 => by rw [hz]; exact e4 e h1⟩
      · rw [if_neg ht] at h
        have hz : ∀ z, optR w yes no (t :: l ++ z) = no (t :: l ++ z) := fun z => by rw [List.cons_append, opt_cons, if_neg ht]
        rcases hn.rep (t :: l) y a r hg h with ⟨b, l2, e1, e2, e3⟩ | ⟨b, e1, e2, e3, e4⟩
        · exact .inl ⟨b, l2, e1, e2, fun z h1 h2 => by rw [hz]; exact e3 z h1 h2⟩
        · exact .inr ⟨b, e1, e2, e3, fun e h1 => by rw [hz]; exact e4 e h1⟩⟩
theorem onE_opt {α : Type} {s : Bool} {w : List UInt8} {yes no : Rd α} (hw : w ≠ []) (he : OnE s no) : OnE s (optR w yes no) := fun e h => by
  unfold optR
  rw [if_neg fun h2 => not_dead hw (by rw [← h2]; rfl) h]
  exact he e h
theorem con_opt {α : Type} {w : List UInt8} {yes no : Rd α} (hw : w ≠ []) (hl : ∀ l a r, yes l = .ok a r → r.length ≤ l.length) (hn : Con no) : Con (optR w yes no) := fun l a r h => by
  unfold optR at h
  cases l with
  | nil =>
    rw [if_neg (show ¬ (hd []).text = w from fun e => hw e.symm)] at h
    exact hn _ _ _ h
  | cons t l =>
    by_cases ht : (hd (t :: l)).text = w
    · rw [if_pos ht] at h
      have := hl _ _ _ h
      simp at *
      omega
    · rw [if_neg ht] at h; exact hn _ _ _ h
theorem rep_bind {α β : Type} {c s c1 s1 c2 s2 : Bool} {R : Rd α} {F : α → Rd β} (hR : Rep c1 s1 R) (hF : ∀ a, Rep c2 s2 (F a)) (hc : c = true → c2 = true ∧ (c1 = true ∨ ∀ a, Con (F a))) (hs : s = true → s2 = true ∧ (s1 = true ∨ ∀ a, OnE true (F a))) (he : s1 = false → ∀ a, OnE false (F a)) : Rep c s (bindR R F) :=
  ⟨fun l y a r hg h => by
    unfold bindR at h
    cases h1 : R (l ++ y) with
    | no e p => rw [h1] at h; cases h
    | ok a1 r1 =>
      rw [h1] at h
      simp only at h
      have hs' : ∀ {x : Bool}, s2 = false → s = false := fun {_} h2 => by
        cases s with
        | false => rfl
        | true => rw [(hs rfl).1] at h2; cases h2
      rcases hR.rep l y a1 r1 hg h1 with ⟨b, l1, rfl, rfl, e3⟩ | ⟨b, e1, rfl, e3, e4⟩
      · rcases (hF a1).rep l1 y a r hg h with ⟨b2, l2, rfl, rfl, f3⟩ | ⟨b2, f1, rfl, f3, f4⟩
        · refine .inl ⟨b ++ b2, l2, by simp, rfl, fun z hz hq => ?_⟩
          have hq1 : b2 ++ l2 ≠ [] ∨ dead (hd z) ∨ c1 = true := by
            rcases hq with hq | hq | hq
            · exact .inl (by simp [hq])
            · exact .inr (.inl hq)
            · rcases (hc hq).2 with h2 | h2
              · exact .inr (.inr h2)
              · refine .inl fun h3 => ?_
                have := h2 a1 _ _ _ h
                simp only [h3, List.nil_append] at this
                have h4 : l2 = [] := (List.append_eq_nil_iff.1 h3).2
                simp [h4] at this
          have hq2 : l2 ≠ [] ∨ dead (hd z) ∨ c2 = true := by
            rcases hq with hq | hq | hq
            · exact .inl hq
            · exact .inr (.inl hq)
            · exact .inr (.inr (hc hq).1)
          unfold bindR
          rw [e3 z hz hq1]
          exact f3 z hz hq2
        · refine .inr ⟨b2, f1, rfl, f3, fun e he1 => ?_⟩
          unfold bindR
          rw [e3 [e] (Good.one he1) (.inr (.inl he1))]
          rcases f4 e he1 with h2 | ⟨h2, h3⟩
          · exact .inl h2
          · exact .inr ⟨hs' (x := true) h2, h3⟩
      · have hend : ∀ e, dead e → bindR R F (l ++ [e]) = .no 60 e.pos ∨ (s = false ∧ ∃ a', bindR R F (l ++ [e]) = .ok a' [e]) := fun e he1 => by
          unfold bindR
          rcases e4 e he1 with h2 | ⟨h2, a', h3⟩
          · rw [h2]; exact .inl rfl
          · rw [h3]
            simp only
            rcases he h2 a' e he1 with h5 | ⟨_, h5⟩
            · exact .inl h5
            · refine .inr ⟨?_, h5⟩
              cases s with
              | false => rfl
              | true =>
                rcases (hs rfl).2 with h6 | h6
                · rw [h6] at h2; cases h2
                · rcases h6 a' e he1 with h7 | ⟨h7, _⟩
                  · obtain ⟨x, h5⟩ := h5; rw [h7] at h5; cases h5
                  · cases h7
        rcases (hF a1).rep [] r1 a r e3 h with ⟨b2, l2, f1, f2, _⟩ | ⟨b2, f1, rfl, f3, _⟩
        · obtain ⟨rfl, rfl⟩ : b2 = [] ∧ l2 = [] := by simpa using f1.symm
          simp only [List.nil_append] at f2
          subst f2
          exact .inr ⟨b, e1, rfl, e3, hend⟩
        · exact .inr ⟨b ++ b2, by simp [e1], by simp, f3, hend⟩⟩
theorem onE_bind {α β : Type} {s1 : Bool} {R : Rd α} {F : α → Rd β} (hR : OnE s1 R) {s : Bool} (hs : s1 = false → ∀ a, OnE s (F a)) : OnE s (bindR R F) := fun e he => by
  unfold bindR
  rcases hR e he with h | ⟨h, a, h2⟩
  · rw [h]; exact .inl rfl
  · rw [h2]; exact hs h a e he
def Len {α : Type} (R : Rd α) : Prop := ∀ l a r, R l = .ok a r → r.length ≤ l.length
theorem Con.len {α : Type} {R : Rd α} (h : Con R) : Len R := fun l a r e => Nat.le_of_lt (h l a r e)
theorem len_pure {α : Type} (a : α) : Len (pureR a) := fun l b r h => by cases h; exact Nat.le_refl _
theorem con_bind {α β : Type} {R : Rd α} {F : α → Rd β} (h : Con R) (hF : ∀ a, Len (F a)) : Con (bindR R F) := fun l a r e => by
  unfold bindR at e
  cases h1 : R l with
  | no _ _ => rw [h1] at e; cases e
  | ok a1 r1 => rw [h1] at e; exact Nat.lt_of_le_of_lt (hF a1 _ _ _ e) (h _ _ _ h1)
theorem con_bind2 {α β : Type} {R : Rd α} {F : α → Rd β} (h : Len R) (hF : ∀ a, Con (F a)) : Con (bindR R F) := fun l a r e => by
  unfold bindR at e
  cases h1 : R l with
  | no _ _ => rw [h1] at e; cases e
  | ok a1 r1 => rw [h1] at e; exact Nat.lt_of_lt_of_le (hF a1 _ _ _ e) (h _ _ _ h1)
theorem len_bind {α β : Type} {R : Rd α} {F : α → Rd β} (h : Len R) (hF : ∀ a, Len (F a)) : Len (bindR R F) := fun l a r e => by
  unfold bindR at e
  cases h1 : R l with
  | no _ _ => rw [h1] at e; cases e
  | ok a1 r1 => rw [h1] at e; exact Nat.le_trans (hF a1 _ _ _ e) (h _ _ _ h1)
theorem len_opt {α : Type} {w : List UInt8} {yes no : Rd α} (hy : Len yes) (hn : Len no) : Len (optR w yes no) := fun l a r e => by
  unfold optR at e
  split at e
  · have := hy _ _ _ e
    have h2 : l.tail.length ≤ l.length := by simp
    omega
  · exact hn _ _ _ e
end Go.Proofs.YtggdpgaedmegbaaGreatDoor

namespace Go.Proofs.YtggdpgaedmegbaaGreatDoor

def alike (t u : Tok) : Prop := t.k = u.k ∧ t.text = u.text ∧ t.n = u.n
/-- two rows of tokens, alike one by one -/
inductive Alike : List Tok → List Tok → Prop
  | nil : Alike [] []
  | cons {t u : Tok} {l m : List Tok} : alike t u → Alike l m → Alike (t :: l) (u :: m)
theorem Alike.len {l m : List Tok} (h : Alike l m) : l.length = m.length := by
  induction h with
  | nil => rfl
  | cons _ _ ih => simp [ih]
theorem Alike.hd {l m : List Tok} (h : Alike l m) : alike (hd l) (Go.Proofs.YtggdpgaedmegbaaGreatDoor.hd m) := by
  cases h with
  | nil => exact ⟨rfl, rfl, rfl⟩
  | cons h _ => exact h
theorem Alike.tail {l m : List Tok} (h : Alike l m) : Alike l.tail m.tail := by
  cases h with
  | nil => exact .nil
  | cons _ h => exact h
theorem Alike.app {l m l' m' : List Tok} (h : Alike l m) (h' : Alike l' m') : Alike (l ++ l') (m ++ m') := by
  induction h with
  | nil => exact h'
  | cons h1 _ ih => exact .cons h1 ih
theorem Alike.drop {l m : List Tok} (h : Alike l m) (i : Nat) : Alike (l.drop i) (m.drop i) := by
  induction i with
  | zero => exact h
  | succ i ih => rw [← List.tail_drop, ← List.tail_drop]; exact ih.tail
theorem Good.pos {l : List Tok} (h : Good l) : 0 < l.length := List.length_pos_iff.2 h.ne

def Spot2 (l m : List Tok) (p q : Nat) : Prop := ∃ i, i < l.length ∧ p = (hd (l.drop i)).pos ∧ q = (hd (m.drop i)).pos
def Sim2 {α : Type} (E : α → α → Prop) (l m : List Tok) : Rs α → Rs α → Prop
  | .ok a r, .ok b s => E a b ∧ Alike r s ∧ Good r ∧ ∃ i, i < l.length ∧ r = l.drop i ∧ s = m.drop i
  | .no e p, .no f q => e = f ∧ Spot2 l m p q
  | _, _ => False
theorem Sim2.shift {α : Type} {E : α → α → Prop} {l m : List Tok} {i : Nat} {x y : Rs α} (h : Sim2 E (l.drop i) (m.drop i) x y) : Sim2 E l m x y := by
  cases x with
  | ok a r =>
    cases y with
    | ok b s =>
      obtain ⟨h1, h2, h3, j, h4, rfl, rfl⟩ := h
      rw [List.length_drop] at h4
      exact ⟨h1, h2, h3, i + j, by omega, by rw [List.drop_drop], by rw [List.drop_drop]⟩
    | no _ _ => exact h
  | no e p =>
    cases y with
    | ok _ _ => exact h
    | no f q =>
      obtain ⟨h1, j, h4, rfl, rfl⟩ := h
      rw [List.length_drop] at h4
      exact ⟨h1, i + j, by omega, by rw [List.drop_drop], by rw [List.drop_drop]⟩
def SimR {α : Type} (E : α → α → Prop) (R : Rd α) : Prop := ∀ l m, Alike l m → Good l → Sim2 E l m (R l) (R m)
def SimP {α : Type} (E : α → α → Prop) (R Q : Rd α) : Prop := ∀ l m, Alike l m → Good l → Sim2 E l m (R l) (Q m)
theorem simP_pure {α : Type} {E : α → α → Prop} {a b : α} (h : E a b) : SimP E (pureR a) (pureR b) := fun _ _ hl hg => ⟨h, hl, hg, 0, hg.pos, rfl, rfl⟩
theorem simP_fail {α : Type} (E : α → α → Prop) (e : Int) : SimP E (failR (α := α) e) (failR e) := fun _ _ _ hg => ⟨rfl, 0, hg.pos, rfl, rfl⟩
theorem good_tail {l : List Tok} (hg : Good l) (h : ¬ dead (hd l)) : Good l.tail ∧ 1 < l.length := by
  cases l with
  | nil => exact absurd rfl hg.ne
  | cons t l =>
    have := hg.tail h
    exact ⟨this, by have := this.pos; simp; omega⟩
theorem simP_one {f : Tok → Bool} {E : Tok → Tok → Prop} (hd0 : ∀ t, dead t → f t = false) (hf : ∀ t u, alike t u → f t = f u) (hE : ∀ t u, alike t u → E t u) : SimP E (oneR f) (oneR f) := fun l m hl hg => by
  unfold oneR
  rw [hf _ _ hl.hd]
  by_cases h : f (hd m) = true
  · rw [if_pos h, if_pos h]
    have hn : ¬ dead (hd l) := fun e => by have := hd0 _ e; rw [hf _ _ hl.hd, h] at this; cases this
    exact ⟨hE _ _ hl.hd, hl.tail, (good_tail hg hn).1, 1, (good_tail hg hn).2, by simp, by simp⟩
  · rw [if_neg h, if_neg h]
    exact ⟨rfl, 0, hg.pos, rfl, rfl⟩
theorem simP_opt {α : Type} {E : α → α → Prop} {w : List UInt8} {R Q R' Q' : Rd α} (hw : w ≠ []) (hy : SimP E R Q) (hn : SimP E R' Q') : SimP E (optR w R R') (optR w Q Q') := fun l m hl hg => by
  unfold optR
  by_cases h : (hd l).text = w
  · rw [if_pos h, if_pos (hl.hd.2.1 ▸ h)]
    have := hy _ _ hl.tail (good_tail hg (not_dead hw h)).1
    rw [← List.drop_one, ← List.drop_one] at this
    rw [← List.drop_one, ← List.drop_one]
    exact this.shift
  · rw [if_neg h, if_neg (fun e => h (hl.hd.2.1.trans e))]
    exact hn l m hl hg
theorem simP_is {α : Type} {E : α → α → Prop} {f : Tok → Bool} {R Q R' Q' : Rd α} (hf : ∀ t u, alike t u → f t = f u) (hy : SimP E R Q) (hn : SimP E R' Q') : SimP E (isR f R R') (isR f Q Q') := fun l m hl hg => by
  unfold isR
  rw [hf _ _ hl.hd]
  by_cases h : f (hd m) = true
  · rw [if_pos h, if_pos h]; exact hy l m hl hg
  · rw [if_neg h, if_neg h]; exact hn l m hl hg
theorem simP_at {α : Type} {E : α → α → Prop} {F G : Nat → Rd α} (h : ∀ p q, SimP E (F p) (G q)) : SimP E (atR F) (atR G) := fun l m hl hg => h _ _ l m hl hg
theorem simP_bind {α β : Type} {E : α → α → Prop} {D : β → β → Prop} {R Q : Rd α} {F G : α → Rd β} (h : SimP E R Q) (hF : ∀ a b, E a b → SimP D (F a) (G b)) : SimP D (bindR R F) (bindR Q G) := fun l m hl hg => by
  unfold bindR
  have h1 := h l m hl hg
  cases hR : R l with
  | ok a r =>
    rw [hR] at h1
    cases hQ : Q m with
    | ok b s =>
      rw [hQ] at h1
      obtain ⟨e, e1, e2, i, _, rfl, rfl⟩ := h1
      exact (hF a b e _ _ e1 e2).shift
    | no _ _ => rw [hQ] at h1; exact h1.elim
  | no e p =>
    rw [hR] at h1
    cases hQ : Q m with
    | ok _ _ => rw [hQ] at h1; exact h1.elim
    | no f q => rw [hQ] at h1; exact h1
theorem simP_map {α β : Type} {E : α → α → Prop} {D : β → β → Prop} {R Q : Rd α} {f g : α → β} (h : SimP E R Q) (hf : ∀ a b, E a b → D (f a) (g b)) : SimP D (mapR R f) (mapR Q g) :=
  simP_bind h fun a b e => simP_pure (hf a b e)
inductive All2 {α : Type} (E : α → α → Prop) : List α → List α → Prop
  | nil : All2 E [] []
  | cons {a b : α} {l m : List α} : E a b → All2 E l m → All2 E (a :: l) (b :: m)
theorem All2.map {α β : Type} {f : α → β} {l m : List α} (h : All2 (fun a b => f a = f b) l m) : l.map f = m.map f := by
  induction h with
  | nil => rfl
  | cons h1 _ ih => simp only [List.map_cons, h1, ih]
theorem All2.eq {α : Type} {l m : List α} (h : All2 Eq l m) : l = m := by
  induction h with
  | nil => rfl
  | cons h1 _ ih => rw [h1, ih]
theorem simP_row {α : Type} {E : α → α → Prop} {w : List UInt8} (hw : w ≠ []) {f g : Bool → Rd α} (h : ∀ b, SimP E (f b) (g b)) : ∀ k b, SimP (All2 E) (rowR w f k b) (rowR w g k b)
  | 0, _ => simP_fail _ _
  | k + 1, b => simP_opt hw (simP_pure .nil) (simP_bind (h b) fun _ _ e => simP_map (simP_row hw h k false) fun _ _ e2 => .cons e e2)
theorem simP_rowL {α : Type} {E : α → α → Prop} {w : List UInt8} (hw : w ≠ []) {f g : Bool → Rd α} (h : ∀ b, SimP E (f b) (g b)) : SimP (All2 E) (rowL w f) (rowL w g) := fun l m hl hg => by
  unfold rowL
  rw [hl.len]
  exact simP_row hw h _ _ l m hl hg
end Go.Proofs.YtggdpgaedmegbaaGreatDoor

namespace Go.Proofs.YtggdpgaedmegbaaGreatDoor

mutual
def npSt : St5 → St5
  | .mk k _ nm ty p rv op ht th he el ha ar => .mk k 0 nm ty p rv op ht (npSts th) he (npSts el) ha (npArs ar)
def npSts : List St5 → List St5
  | [] => []
  | a :: l => npSt a :: npSts l
def npAr : Ar5 → Ar5
  | .mk vr b h body => .mk vr b h (npSts body)
def npArs : List Ar5 → List Ar5
  | [] => []
  | a :: l => npAr a :: npArs l
end
theorem npSts_eq : ∀ l, npSts l = l.map npSt
  | [] => by rw [npSts]; rfl
  | a :: l => by rw [npSts, npSts_eq l]; rfl
theorem npArs_eq : ∀ l, npArs l = l.map npAr
  | [] => by rw [npArs]; rfl
  | a :: l => by rw [npArs, npArs_eq l]; rfl
def npSu (s : Su5) : Su5 := { s with pos := 0 }
def npEn (s : En5) : En5 := { s with pos := 0 }
def npFn (s : Fn5) : Fn5 := { s with pos := 0, body := s.body.map npSt }
def npSo (s : So5) : So5 := { s with structs := s.structs.map npSu, enums := s.enums.map npEn, fns := s.fns.map npFn }

theorem dead_free {t : Tok} (h : dead t) : freeT t = false := by simp [freeT, h.1]
theorem dead_small {t : Tok} (h : dead t) : smallT t = false := by simp [smallT, dead_free h]
theorem dead_great {t : Tok} (h : dead t) : greatT t = false := by simp [greatT, dead_free h]
theorem dead_num {t : Tok} (h : dead t) : numT t = false := by simp [numT, h.1]
theorem alike_free {t u : Tok} (h : alike t u) : freeT t = freeT u := by unfold freeT; rw [h.1, h.2.1]
theorem alike_small {t u : Tok} (h : alike t u) : smallT t = smallT u := by unfold smallT; rw [alike_free h, h.2.1]
theorem alike_great {t u : Tok} (h : alike t u) : greatT t = greatT u := by unfold greatT; rw [alike_free h, h.2.1]
theorem alike_num {t u : Tok} (h : alike t u) : numT t = numT u := by unfold numT; rw [h.1]
theorem alike_end {t u : Tok} (h : alike t u) : endB t = endB u := by unfold endB; rw [h.1]

theorem sim_small : SimP Eq smallR smallR := simP_map (simP_one (fun _ => dead_small) (fun _ _ => alike_small) fun _ _ h => h) fun a b h => by rw [h.2.1]
theorem sim_great : SimP Eq greatR greatR := simP_map (simP_one (fun _ => dead_great) (fun _ _ => alike_great) fun _ _ h => h) fun a b h => by rw [h.2.1]
theorem sim_number : SimP Eq numberR numberR := simP_map (simP_one (fun _ => dead_num) (fun _ _ => alike_num) fun _ _ h => h) fun a b h => by rw [h.2.2]
theorem sim_need {w : List UInt8} (hw : w ≠ []) : SimP Eq (needR w) (needR w) := simP_opt hw (simP_pure rfl) (simP_fail _ _)
theorem simP_mapE {α β : Type} {R : Rd α} {f : α → β} (h : SimP Eq R R) : SimP Eq (mapR R f) (mapR R f) := simP_map h fun _ _ e => by rw [e]
theorem simP_bindE {α β : Type} {R : Rd α} {F : α → Rd β} (h : SimP Eq R R) (hF : ∀ a, SimP Eq (F a) (F a)) : SimP Eq (bindR R F) (bindR R F) := simP_bind h fun a b e => by subst e; exact hF a
theorem sim_ty : ∀ n, SimP Eq (tyR n) (tyR n)
  | 0 => simP_fail _ _
  | n + 1 => simP_opt (by decide) (simP_pure rfl) (simP_opt (by decide) (simP_mapE sim_small) (simP_opt (by decide) (simP_mapE (sim_ty n))
      (simP_opt (by decide) (simP_opt (by decide) (simP_mapE (sim_ty n)) (simP_mapE (sim_ty n))) (simP_mapE sim_great))))
theorem sim_field : SimP Eq fieldR fieldR := simP_bindE sim_small fun _ => simP_bindE (sim_need (by decide)) fun _ => simP_mapE (sim_ty _)
theorem sim_variant : SimP Eq variantR variantR := simP_bindE sim_great fun _ => simP_opt (by decide) (simP_bindE (sim_ty _) fun _ => simP_mapE (sim_need (by decide))) (simP_pure rfl)
theorem sim_sep {α : Type} {E : α → α → Prop} {R Q : Rd α} (h : SimP E R Q) : ∀ b, SimP E (sepR R b) (sepR Q b)
  | true => h
  | false => simP_bind (sim_need (by decide)) fun _ _ _ => h
theorem sim_list {α : Type} {w : List UInt8} (hw : w ≠ []) {R : Rd α} (h : SimP Eq R R) : SimP Eq (rowL w (sepR R)) (rowL w (sepR R)) := fun l m hl hg => by
  have := simP_rowL hw (sim_sep h) l m hl hg
  revert this
  cases rowL w (sepR R) l with
  | ok a r =>
    cases rowL w (sepR R) m with
    | ok b s => exact fun h => ⟨h.1.eq, h.2⟩
    | no _ _ => exact id
  | no e p =>
    cases rowL w (sepR R) m with
    | ok b s => exact id
    | no _ _ => exact id
theorem sim_step : SimP Eq stepR stepR := simP_opt (by decide) (simP_pure rfl) sim_small
theorem sim_path : ∀ k, SimP Eq (pathR k) (pathR k)
  | 0 => simP_fail _ _
  | k + 1 => simP_opt (by decide) (simP_bindE sim_step fun _ => simP_mapE (sim_path k)) (simP_pure rfl)
theorem sim_place : SimP Eq placeR placeR := simP_bindE sim_small fun _ => simP_mapE fun l m hl hg => by
  rw [hl.len]
  exact sim_path _ l m hl hg
theorem sim_alone : SimP Eq aloneR aloneR := simP_mapE sim_small
theorem sim_oper : SimP Eq operR operR := simP_opt (by decide) (simP_mapE sim_number) (simP_is (fun _ _ => alike_num) (simP_mapE sim_number) (simP_mapE sim_place))
theorem sim_args : SimP Eq argsR argsR := simP_bindE (sim_need (by decide)) fun _ => sim_list (by decide) sim_oper
theorem sim_made : SimP Eq madeR madeR := simP_bindE sim_great fun _ => simP_opt (by decide) (simP_bindE sim_great fun _ => simP_opt (by decide) (simP_bindE sim_oper fun _ => simP_mapE (sim_need (by decide))) (simP_pure rfl)) (simP_mapE sim_args)
theorem sim_reckoned : SimP Eq reckonedR reckonedR := simP_bindE sim_oper fun _ => simP_opt (by decide) (simP_mapE sim_oper) (simP_opt (by decide) (simP_mapE sim_oper) (simP_opt (by decide) (simP_mapE sim_oper) (simP_opt (by decide) (simP_mapE sim_oper) (simP_opt (by decide) (simP_mapE sim_oper) (simP_pure rfl)))))
theorem sim_set : SimP Eq setR setR := simP_opt (by decide) (simP_opt (by decide) (simP_mapE sim_place) (simP_mapE sim_place)) (simP_opt (by decide) (simP_mapE sim_oper) (simP_opt (by decide) (simP_mapE sim_alone)
    (simP_opt (by decide) (simP_bindE sim_small fun _ => simP_mapE sim_args) (simP_opt (by decide) (simP_mapE sim_alone) (simP_opt (by decide) (simP_mapE sim_alone) (simP_opt (by decide) (simP_mapE sim_oper) (simP_is (fun _ _ => alike_great) sim_made sim_reckoned)))))))
theorem sim_isSet : SimP Eq isSetR isSetR := simP_bindE (sim_need (by decide)) fun _ => sim_set

def ESt (a b : St5) : Prop := npSt a = npSt b
def EAr (a b : Ar5) : Prop := npAr a = npAr b
def ESts (a b : List St5) : Prop := a.map npSt = b.map npSt
theorem est {k p q : Int} {nm : ByteArray} {ty : Ty5} {pl : Pl5} {rv : Rv5} {op : Op5} {th th' el el' : List St5} {ar ar' : List Ar5} (h1 : th.map npSt = th'.map npSt) (h2 : el.map npSt = el'.map npSt) (h3 : ar.map npAr = ar'.map npAr) : ESt (st5 k p nm ty pl rv op th el ar) (st5 k q nm ty pl rv op th' el' ar') := by
  unfold ESt st5
  rw [npSt, npSt, npSts_eq, npSts_eq, npSts_eq, npSts_eq, npArs_eq, npArs_eq, h1, h2, h3]
theorem simP_rowE {α β : Type} {f : α → β} {w : List UInt8} (hw : w ≠ []) {F G : Bool → Rd α} (h : ∀ b, SimP (fun a b => f a = f b) (F b) (G b)) : SimP (fun a b => a.map f = b.map f) (rowL w F) (rowL w G) := fun l m hl hg => by
  have := simP_rowL hw h l m hl hg
  revert this
  cases rowL w F l with
  | ok a r =>
    cases rowL w G m with
    | ok b s => exact fun h => ⟨h.1.map, h.2⟩
    | no _ _ => exact id
  | no e p =>
    cases rowL w G m with
    | ok b s => exact id
    | no _ _ => exact id
theorem sim_arm {R Q : Rd (List St5)} (h : SimP ESts R Q) : SimP EAr (armR R) (armR Q) :=
  simP_bind sim_great fun _ _ e => simP_bind (simP_opt (by decide) (simP_bindE sim_small fun _ => simP_mapE (sim_need (by decide))) (simP_pure rfl)) fun _ _ e2 => simP_bind (sim_need (by decide)) fun _ _ _ => simP_map h fun a b e3 => by
    subst e e2
    unfold EAr
    rw [npAr, npAr, npSts_eq, npSts_eq, show a.map npSt = b.map npSt from e3]
theorem sim_plain (p q : Nat) : SimP ESt (plainR p) (plainR q) :=
  simP_opt (by decide) (simP_bind sim_field fun _ _ e => simP_map sim_isSet fun _ _ e2 => by subst e e2; exact est rfl rfl rfl)
  (simP_opt (by decide) (simP_map sim_oper fun _ _ e => by subst e; exact est rfl rfl rfl)
  (simP_opt (by decide) (simP_map sim_oper fun _ _ e => by subst e; exact est rfl rfl rfl)
  (simP_opt (by decide) (simP_map sim_oper fun _ _ e => by subst e; exact est rfl rfl rfl)
  (simP_opt (by decide) (simP_map sim_alone fun _ _ e => by subst e; exact est rfl rfl rfl)
  (simP_bind sim_place fun _ _ e => simP_map sim_isSet fun _ _ e2 => by subst e e2; exact est rfl rfl rfl)))))
theorem sim_stmt {R Q : Rd (List St5)} (h : SimP ESts R Q) : SimP ESt (stmtR R) (stmtR Q) := simP_at fun p q =>
  simP_opt (by decide) (simP_bind sim_oper fun _ _ e => simP_bind h fun _ _ e1 => simP_opt (by decide) (simP_map h fun _ _ e2 => by subst e; exact est e1 e2 rfl) (simP_pure (by subst e; exact est e1 rfl rfl)))
  (simP_opt (by decide) (simP_bind sim_oper fun _ _ e => simP_map h fun _ _ e1 => by subst e; exact est e1 rfl rfl)
  (simP_opt (by decide) (simP_bind sim_alone fun _ _ e => simP_bind (sim_need (by decide)) fun _ _ _ => simP_map (simP_rowE (f := npAr) (by decide) fun _ => sim_arm h) fun _ _ e1 => by subst e; exact est rfl rfl e1)
  (simP_bind (sim_plain p q) fun _ _ e => simP_map (sim_need (by decide)) fun _ _ _ => e)))
theorem sim_block : ∀ n, SimP ESts (blockD n) (blockD n)
  | 0 => simP_is (fun t u h => by rw [h.2.1]) (simP_fail _ _) (simP_fail _ _)
  | n + 1 => simP_bind (sim_need (by decide)) fun _ _ _ => simP_rowE (f := npSt) (by decide) fun _ => sim_stmt (sim_block n)
def ESu (a b : Su5) : Prop := npSu a = npSu b
def EEn (a b : En5) : Prop := npEn a = npEn b
def EFn (a b : Fn5) : Prop := npFn a = npFn b
def ESo (a b : So5) : Prop := npSo a = npSo b
theorem sim_struct : SimP ESu structR structR := simP_at fun p q =>
  simP_bind (simP_opt (by decide) (simP_pure rfl) (simP_pure rfl) : SimP Eq _ _) fun _ _ e => simP_bind (sim_need (by decide)) fun _ _ _ => simP_bind sim_great fun _ _ e1 => simP_bind (sim_need (by decide)) fun _ _ _ => simP_map (sim_list (by decide) sim_field) fun _ _ e2 => by subst e e1 e2; rfl
theorem sim_enum (p q : Nat) : SimP EEn (enumR p) (enumR q) :=
  simP_bind sim_great fun _ _ e1 => simP_bind (sim_need (by decide)) fun _ _ _ => simP_map (sim_list (by decide) sim_variant) fun _ _ e2 => by subst e1 e2; rfl
theorem sim_fn (p q : Nat) : SimP EFn (fnR p) (fnR q) :=
  simP_bind sim_small fun _ _ e1 => simP_bind (sim_need (by decide)) fun _ _ _ => simP_bind (sim_list (by decide) sim_field) fun _ _ e2 => simP_map (sim_block 60) fun a b e3 => by
    subst e1 e2
    unfold EFn npFn
    rw [show a.map npSt = b.map npSt from e3]
theorem sim_items : ∀ k, SimP ESo (itemsR k) (itemsR k)
  | 0 => simP_fail _ _
  | k + 1 => simP_is (fun _ _ => alike_end) (simP_pure rfl) (simP_at fun p q => simP_opt (by decide)
      (simP_bind (sim_enum p q) fun a b e => simP_map (sim_items k) fun s t e1 => by
        have h := congrArg So5.enums e1; have h2 := congrArg So5.structs e1; have h3 := congrArg So5.fns e1
        simp only [npSo] at h h2 h3
        unfold ESo npSo
        simp only [List.map_cons, h, h2, h3, show npEn a = npEn b from e]
        have h4 := congrArg So5.hs e1; have h5 := congrArg So5.he e1; have h6 := congrArg So5.hf e1
        simp only [npSo] at h4 h5 h6
        rw [h4, h5, h6])
      (simP_opt (by decide) (simP_bind (sim_fn p q) fun a b e => simP_map (sim_items k) fun s t e1 => by
        have h := congrArg So5.enums e1; have h2 := congrArg So5.structs e1; have h3 := congrArg So5.fns e1
        simp only [npSo] at h h2 h3
        unfold ESo npSo
        simp only [List.map_cons, h, h2, h3, show npFn a = npFn b from e]
        have h4 := congrArg So5.hs e1; have h5 := congrArg So5.he e1; have h6 := congrArg So5.hf e1
        simp only [npSo] at h4 h5 h6
        rw [h4, h5, h6])
      (simP_bind sim_struct fun a b e => simP_map (sim_items k) fun s t e1 => by
        have h := congrArg So5.enums e1; have h2 := congrArg So5.structs e1; have h3 := congrArg So5.fns e1
        simp only [npSo] at h h2 h3
        unfold ESo npSo
        simp only [List.map_cons, h, h2, h3, show npSu a = npSu b from e]
        have h4 := congrArg So5.hs e1; have h5 := congrArg So5.he e1; have h6 := congrArg So5.hf e1
        simp only [npSo] at h4 h5 h6
        rw [h4, h5, h6])))
theorem sim_source : SimP ESo sourceR sourceR := fun l m hl hg => by
  unfold sourceR
  rw [hl.len]
  exact sim_items _ l m hl hg
end Go.Proofs.YtggdpgaedmegbaaGreatDoor

namespace Go.Proofs.YtggdpgaedmegbaaGreatDoor

theorem rep_map {α β : Type} {c s : Bool} {R : Rd α} (f : α → β) (h : Rep c s R) (he : s = true ∨ s = false) : Rep c s (mapR R f) :=
  rep_bind h (c2 := true) (s2 := true) (fun _ => rep_pure _) (fun hc => ⟨rfl, .inl hc⟩) (fun hs => ⟨rfl, .inl hs⟩) fun _ a => onE_pure _
theorem onE_map {α β : Type} {s : Bool} {R : Rd α} (f : α → β) (h : OnE s R) : OnE s (mapR R f) := onE_bind h fun hs _ => hs ▸ onE_pure _
theorem con_map {α β : Type} {R : Rd α} (f : α → β) (h : Con R) : Con (mapR R f) := con_bind h fun _ => len_pure _
theorem len_map {α β : Type} {R : Rd α} (f : α → β) (h : Len R) : Len (mapR R f) := len_bind h fun _ => len_pure _

theorem last_small : smallT lastT = false := dead_small ⟨rfl, rfl⟩
theorem last_great : greatT lastT = false := dead_great ⟨rfl, rfl⟩
theorem last_num : numT lastT = false := dead_num ⟨rfl, rfl⟩
/-- what is asked of a rule: loose or tight; it takes something; on an end it tells a fault -/
structure Ru1 {α : Type} (c s : Bool) (R : Rd α) : Prop where
  rep : Rep c s R
  onE : OnE true R
  con : Con R
theorem Ru1.weak {α : Type} {R : Rd α} (h : Ru1 true true R) : Ru1 false false R := ⟨h.rep.weak (fun h => by cases h) (fun h => by cases h), h.onE, h.con⟩
theorem Ru1.map {α β : Type} {c s : Bool} {R : Rd α} (h : Ru1 c s R) (f : α → β) : Ru1 c s (mapR R f) := ⟨rep_map f h.rep (by cases s <;> simp), onE_map f h.onE, con_map f h.con⟩
/-- behind it nothing, or something loose -/
theorem Ru1.bind {α β : Type} {c s : Bool} {R : Rd α} {F : α → Rd β} (h : Ru1 true true R) (hF : ∀ a, Rep c s (F a)) (hl : ∀ a, Len (F a)) : Ru1 c s (bindR R F) :=
  ⟨rep_bind h.rep hF (fun hc => ⟨hc, .inl rfl⟩) (fun hs => ⟨hs, .inl rfl⟩) (fun h => by cases h), onE_bind h.onE (fun h => by cases h), con_bind h.con hl⟩
/-- something loose, and something behind it -/
theorem Ru1.bindL {α β : Type} {c s c1 s1 : Bool} {R : Rd α} {F : α → Rd β} (h : Ru1 c1 s1 R) (hF : ∀ a, Ru1 c s (F a)) : Ru1 c s (bindR R F) :=
  ⟨rep_bind h.rep (fun a => (hF a).rep) (fun hc => ⟨hc, .inr fun a => (hF a).con⟩) (fun hs => ⟨hs, .inr fun a => (hF a).onE⟩) fun _ a => (hF a).onE.weak, onE_bind h.onE (fun h => by cases h), con_bind h.con fun a => (hF a).con.len⟩
theorem Ru1.opt {α : Type} {c s : Bool} {w : List UInt8} {yes no : Rd α} (hw : w ≠ []) (hy : Rep c s yes) (hl : Len yes) (hn : Ru1 c s no) : Ru1 c s (optR w yes no) :=
  ⟨rep_opt hw hy hn.rep hn.onE.weak fun _ => hn.con, onE_opt hw hn.onE, con_opt hw hl hn.con⟩
theorem is_cons {α : Type} (f : Tok → Bool) (yes no : Rd α) (t : Tok) (l : List Tok) : isR f yes no (t :: l) = if f t then yes (t :: l) else no (t :: l) := rfl
theorem rep_is {α : Type} {c s : Bool} {f : Tok → Bool} (hf : ∀ t, dead t → f t = false) {yes no : Rd α} (hy : Rep c s yes) (hyc : Con yes) (hn : Rep c s no) (hnc : Con no) (he : OnE s no) : Rep c s (isR f yes no) :=
  ⟨fun l y a r hg h => by
    cases l with
    | nil =>
      have hend : ∀ e, dead e → isR f yes no ([] ++ [e]) = no [e] := fun e h1 => by
        rw [List.nil_append, is_cons, if_neg (by rw [hf e h1]; decide)]
      have key : ∀ {R : Rd α}, Rep c s R → Con R → R ([] ++ y) = .ok a r → ∃ b, b ≠ [] ∧ y = b ++ r ∧ Good r := fun {R} hR hC h1 => by
        rcases hR.rep [] y a r hg h1 with ⟨b, l2, e1, e2, _⟩ | ⟨b, e1, e2, e3, _⟩
        · obtain ⟨rfl, rfl⟩ : b = [] ∧ l2 = [] := by simpa using e1.symm
          have := hC _ _ _ h1
          rw [e2] at this
          simp at this
        · exact ⟨b, e1, e2, e3⟩
      have h2 : ∃ b, b ≠ [] ∧ y = b ++ r ∧ Good r := by
        unfold isR at h
        split at h
        · exact key hy hyc h
        · exact key hn hnc h
      obtain ⟨b, e1, e2, e3⟩ := h2
      exact .inr ⟨b, e1, e2, e3, fun e h1 => by rw [hend e h1]; exact he e h1⟩
    | cons t l =>
      have hz : ∀ z, isR f yes no (t :: l ++ z) = if f t then yes (t :: l ++ z) else no (t :: l ++ z) := fun z => rfl
      rw [hz] at h
      by_cases ht : f t = true
      · rw [if_pos ht] at h
        rcases hy.rep (t :: l) y a r hg h with ⟨b, l2, e1, e2, e3⟩ | ⟨b, e1, e2, e3, e4⟩
        · exact .inl ⟨b, l2, e1, e2, fun z h1 h2 => by rw [hz, if_pos ht]; exact e3 z h1 h2⟩
        · exact .inr ⟨b, e1, e2, e3, fun e h1 => by rw [hz, if_pos ht]; exact e4 e h1⟩
      · rw [if_neg ht] at h
        rcases hn.rep (t :: l) y a r hg h with ⟨b, l2, e1, e2, e3⟩ | ⟨b, e1, e2, e3, e4⟩
        · exact .inl ⟨b, l2, e1, e2, fun z h1 h2 => by rw [hz, if_neg ht]; exact e3 z h1 h2⟩
        · exact .inr ⟨b, e1, e2, e3, fun e h1 => by rw [hz, if_neg ht]; exact e4 e h1⟩⟩
theorem Ru1.is {α : Type} {c s : Bool} {f : Tok → Bool} (hf : ∀ t, dead t → f t = false) {yes no : Rd α} (hy : Rep c s yes) (hyc : Con yes) (hn : Ru1 c s no) : Ru1 c s (isR f yes no) :=
  ⟨rep_is hf hy hyc hn.rep hn.con hn.onE.weak, fun e he => by
    rw [is_cons, if_neg (by rw [hf e he]; decide)]
    exact hn.onE e he, fun l a r h => by
    unfold isR at h
    split at h
    · exact hyc _ _ _ h
    · exact hn.con _ _ _ h⟩
theorem Ru1.at {α : Type} {c s : Bool} {F : Nat → Rd α} (h : ∀ p, Ru1 c s (F p)) : Ru1 c s (atR F) :=
  ⟨⟨fun l y a r hg h1 => by
    cases l with
    | nil =>
      rcases (h _).rep.rep [] y a r hg h1 with ⟨b, l2, e1, e2, _⟩ | ⟨b, e1, e2, e3, _⟩
      · obtain ⟨rfl, rfl⟩ : b = [] ∧ l2 = [] := by simpa using e1.symm
        have := (h _).con _ _ _ h1
        rw [e2] at this
        simp at this
      · exact .inr ⟨b, e1, e2, e3, fun e h2 => ((h _).onE e h2).elim .inl fun h3 => by cases h3.1⟩
    | cons t l =>
      rcases (h t.pos).rep.rep (t :: l) y a r hg h1 with ⟨b, l2, e1, e2, e3⟩ | ⟨b, e1, e2, e3, e4⟩
      · exact .inl ⟨b, l2, e1, e2, e3⟩
      · exact .inr ⟨b, e1, e2, e3, e4⟩⟩, fun e he => (h _).onE e he, fun l a r h1 => (h _).con _ _ _ h1⟩

theorem ru_small : Ru1 true true smallR := Ru1.map ⟨rep_one fun _ => dead_small, onE_one fun _ => dead_small, con_one _ last_small⟩ _
theorem ru_great : Ru1 true true greatR := Ru1.map ⟨rep_one fun _ => dead_great, onE_one fun _ => dead_great, con_one _ last_great⟩ _
theorem ru_number : Ru1 true true numberR := Ru1.map ⟨rep_one fun _ => dead_num, onE_one fun _ => dead_num, con_one _ last_num⟩ _
theorem ru_fail {α : Type} {c s : Bool} : Ru1 (α := α) c s (failR 60) := ⟨⟨fun l y b r _ h => by cases h⟩, fun _ _ => .inl rfl, fun l a r h => by cases h⟩
theorem ru_need {w : List UInt8} (hw : w ≠ []) : Ru1 true true (needR w) := Ru1.opt hw (rep_pure _) (len_pure _) ru_fail
theorem rep_never {α : Type} {c s : Bool} {R : Rd α} (h : ∀ l a r, R l ≠ .ok a r) : Rep c s R := ⟨fun l y a r _ h1 => absurd h1 (h _ _ _)⟩
theorem never_map {α β : Type} {R : Rd α} {f : α → β} (h : ∀ l a r, R l ≠ .ok a r) : ∀ l a r, mapR R f l ≠ .ok a r := fun l a r e => by
  unfold mapR bindR at e
  cases h1 : R l with
  | ok x y => exact h _ _ _ h1
  | no _ _ => rw [h1] at e; cases e
theorem never_opt {α : Type} {w : List UInt8} {R Q : Rd α} (h : ∀ l a r, R l ≠ .ok a r) (h' : ∀ l a r, Q l ≠ .ok a r) : ∀ l a r, optR w R Q l ≠ .ok a r := fun l a r e => by
  unfold optR at e
  split at e
  · exact h _ _ _ e
  · exact h' _ _ _ e
theorem never_ty0 : ∀ l a r, tyR 0 l ≠ .ok a r := fun l a r h => by cases h
theorem never_rep {α : Type} {R : Rd α} (h : ∀ l a r, R l ≠ .ok a r) : Rep true true R ∧ Len R := ⟨rep_never h, fun l a r e => absurd e (h _ _ _)⟩
theorem ru_ty : ∀ n, Ru1 true true (tyR (n + 1))
  | 0 => by
    have hz : ∀ {f : Ty5 → Ty5}, Rep true true (mapR (tyR 0) f) ∧ Len (mapR (tyR 0) f) := never_rep (never_map never_ty0)
    have h1 : Rep true true (optR wMut (mapR (tyR 0) fun t => (Ty5.mk 6 nil5 h0 [t])) (mapR (tyR 0) fun t => (Ty5.mk 5 nil5 h0 [t]))) ∧ Len (optR wMut (mapR (tyR 0) fun t => (Ty5.mk 6 nil5 h0 [t])) (mapR (tyR 0) fun t => (Ty5.mk 5 nil5 h0 [t]))) := never_rep (never_opt (never_map never_ty0) (never_map never_ty0))
    exact Ru1.opt (by decide) (rep_pure _) (len_pure _) (Ru1.opt (by decide) (ru_small.map _).rep (ru_small.map _).con.len (Ru1.opt (by decide) hz.1 hz.2 (Ru1.opt (by decide) h1.1 h1.2 (ru_great.map _))))
  | n + 1 => by
    have i := ru_ty n
    have h1 := Ru1.opt (w := wMut) (by decide) (i.map fun t => (Ty5.mk 6 nil5 h0 [t])).rep (i.map fun t => (Ty5.mk 6 nil5 h0 [t])).con.len (i.map fun t => (Ty5.mk 5 nil5 h0 [t]))
    exact Ru1.opt (by decide) (rep_pure _) (len_pure _) (Ru1.opt (by decide) (ru_small.map _).rep (ru_small.map _).con.len (Ru1.opt (by decide) (i.map _).rep (i.map _).con.len (Ru1.opt (by decide) h1.rep h1.con.len (ru_great.map _))))
theorem ru_field : Ru1 true true fieldR := ru_small.bindL fun _ => (ru_need (by decide)).bindL fun _ => (ru_ty 60).map _
theorem ru_variant : Ru1 false false variantR := ru_great.bind (fun _ => rep_opt (by decide) (((ru_ty 60).bindL fun _ => (ru_need (by decide)).map _).weak).rep ((rep_pure _).weak (fun h => by cases h) fun h => by cases h) (onE_pure _) fun h => by cases h)
  fun _ => len_opt ((ru_ty 60).bindL fun _ => (ru_need (by decide)).map _ : Ru1 true true _).con.len (len_pure _)
theorem Ru1.any {α : Type} {c s : Bool} {R : Rd α} (h : Ru1 c s R) : Ru1 false false R := ⟨h.rep.weak (fun h => by cases h) (fun h => by cases h), h.onE, h.con⟩
theorem ru_sep {α : Type} {R : Rd α} (h : Ru1 false false R) : ∀ b, Ru1 false false (sepR R b)
  | true => h
  | false => ((ru_need (w := wComma) (by decide)).bindL fun _ => h)
/-- a row: with whatever fuel that is enough -/
theorem rep_row {α : Type} {w : List UInt8} (hw : w ≠ []) {f : Bool → Rd α} (hf : ∀ b, Ru1 false false (f b)) : ∀ (k : Nat) (b : Bool) (l y : List Tok) (a : List α) (r : List Tok), Good y → rowR w f k b (l ++ y) = .ok a r →
    (∃ b1 l2, b1 ≠ [] ∧ l = b1 ++ l2 ∧ r = l2 ++ y ∧ ∀ z, Good z → ∀ k', (l ++ z).length ≤ k' → rowR w f k' b (l ++ z) = .ok a (l2 ++ z)) ∨
    (∃ b1, b1 ≠ [] ∧ y = b1 ++ r ∧ Good r ∧ ∀ e, dead e → ∀ k', l.length + 1 ≤ k' → rowR w f k' b (l ++ [e]) = .no 60 e.pos)
  | 0, _, _, _, _, _, _, h => by cases h
  | k + 1, b, l, y, a, r, hg, h => by
    have hend : ∀ (b : Bool) (e : Tok), dead e → ∀ k', 1 ≤ k' → rowR w f k' b [e] = .no 60 e.pos := fun b e he k' hk => by
      obtain ⟨q, rfl⟩ : ∃ q, k' = q + 1 := ⟨k' - 1, by omega⟩
      rw [rowR, opt_cons, if_neg fun h2 => not_dead hw h2 he]
      unfold bindR
      rcases (hf b).onE e he with h3 | h3
      · rw [h3]
      · cases h3.1
    -- behind the first thing
    have hmore : ∀ (a1 : α) (r1 : List Tok), f b (l ++ y) = .ok a1 r1 → (∀ z, (hd (l ++ z)).text ≠ w ∨ z = []) → mapR (rowR w f k false) (fun r => a1 :: r) r1 = .ok a r →
        (l = [] → ∃ b1, b1 ≠ [] ∧ y = b1 ++ r ∧ Good r) ∧ (l ≠ [] → (∃ b1 l2, b1 ≠ [] ∧ l = b1 ++ l2 ∧ r = l2 ++ y ∧ ∀ z, Good z → ∀ k', (l ++ z).length ≤ k' → rowR w f k' b (l ++ z) = .ok a (l2 ++ z)) ∨
    (∃ b1, b1 ≠ [] ∧ y = b1 ++ r ∧ Good r ∧ ∀ e, dead e → ∀ k', l.length + 1 ≤ k' → rowR w f k' b (l ++ [e]) = .no 60 e.pos)) := by
      intro a1 r1 h1 hnw h2
      obtain ⟨a2, h3, rfl⟩ : ∃ a2, rowR w f k false r1 = .ok a2 r ∧ a = a1 :: a2 := by
        unfold mapR bindR at h2
        cases h3 : rowR w f k false r1 with
        | no _ _ => rw [h3] at h2; cases h2
        | ok a2 r2 => rw [h3] at h2; cases h2; exact ⟨a2, rfl, rfl⟩
      have hstep : ∀ z, z ≠ [] → ∀ q, rowR w f (q + 1) b (l ++ z) = bindR (f b) (fun a => mapR (rowR w f q false) fun r => a :: r) (l ++ z) := fun z hz q => by
        rw [rowR]
        unfold optR
        rw [if_neg ((hnw z).resolve_right hz)]
      rcases (hf b).rep.rep l y a1 r1 hg h1 with ⟨b2, l1, e1, rfl, e3⟩ | ⟨b2, e1, rfl, e3, e4⟩
      · rcases rep_row hw hf k false l1 y a2 r hg h3 with ⟨b3, l2, g1, rfl, rfl, g4⟩ | ⟨b3, g1, g2, g3, g4⟩
        · constructor
          · intro hl
            rw [hl] at e1
            have := (List.append_eq_nil_iff.1 e1.symm).2
            exact absurd (List.append_eq_nil_iff.1 this).1 g1
          · intro _
            refine .inl ⟨b2 ++ b3, l2, by simp [g1], by rw [e1]; simp, rfl, fun z hz k' hk' => ?_⟩
            have hc := (hf b).con _ _ _ h1
            obtain ⟨q, rfl⟩ : ∃ q, k' = q + 1 := ⟨k' - 1, by have := hz.pos; simp at hk'; omega⟩
            rw [hstep z hz.ne]
            unfold bindR
            rw [e3 z hz (.inl (by simp [g1]))]
            simp only
            unfold mapR bindR
            rw [g4 z hz q (by simp at hk' hc ⊢; rw [e1] at hk' hc; simp at hk' hc; omega)]
            rfl
        · constructor
          · intro _
            exact ⟨b3, g1, g2, g3⟩
          · intro _
            refine .inr ⟨b3, g1, g2, g3, fun e he k' hk' => ?_⟩
            have hc := (hf b).con _ _ _ h1
            obtain ⟨q, rfl⟩ : ∃ q, k' = q + 1 := ⟨k' - 1, by omega⟩
            rw [hstep [e] (by simp)]
            unfold bindR
            rw [e3 [e] (Good.one he) (.inr (.inl he))]
            simp only
            unfold mapR bindR
            rw [g4 e he q (by rw [e1] at hk' hc; simp at hk' hc; omega)]
      · have hend2 : ∀ e, dead e → ∀ k', l.length + 1 ≤ k' → l ≠ [] → rowR w f k' b (l ++ [e]) = .no 60 e.pos := fun e he k' hk' hl => by
          obtain ⟨q, rfl⟩ : ∃ q, k' = q + 1 := ⟨k' - 1, by omega⟩
          rw [hstep [e] (by simp)]
          unfold bindR
          rcases e4 e he with h5 | ⟨_, a', h5⟩
          · rw [h5]
          · rw [h5]
            simp only
            unfold mapR bindR
            rw [hend false e he q (by have := List.length_pos_iff.2 hl; omega)]
        rcases rep_row hw hf k false [] r1 a2 r e3 h3 with ⟨b3, l2, g1, g2, _⟩ | ⟨b3, g1, rfl, g3, _⟩
        · exact absurd (List.append_eq_nil_iff.1 g2.symm).1 g1
        · exact ⟨fun _ => ⟨b2 ++ b3, by simp [e1], by simp, g3⟩, fun hl => .inr ⟨b2 ++ b3, by simp [e1], by simp, g3, fun e he k' hk' => hend2 e he k' hk' hl⟩⟩
    rw [rowR] at h
    unfold optR at h
    have hun : ∀ {x : Rs (List α)}, bindR (f b) (fun a => mapR (rowR w f k false) fun r => a :: r) (l ++ y) = .ok a r → ∃ a1 r1, f b (l ++ y) = .ok a1 r1 ∧ mapR (rowR w f k false) (fun r => a1 :: r) r1 = .ok a r := fun {_} h => by
      unfold bindR at h
      cases h1 : f b (l ++ y) with
      | no _ _ => rw [h1] at h; cases h
      | ok a1 r1 => rw [h1] at h; exact ⟨a1, r1, rfl, h⟩
    cases l with
    | nil =>
      have hon : ∀ e, dead e → ∀ k', ([] : List Tok).length + 1 ≤ k' → rowR w f k' b ([] ++ [e]) = .no 60 e.pos := fun e he k' hk' => hend b e he k' hk'
      cases y with
      | nil => exact absurd rfl hg.ne
      | cons t y =>
        by_cases ht : (hd ([] ++ t :: y)).text = w
        · rw [if_pos ht] at h
          cases h
          exact .inr ⟨[t], by simp, rfl, hg.tail (not_dead hw ht), hon⟩
        · rw [if_neg ht] at h
          obtain ⟨a1, r1, h1, h2⟩ := hun (x := .no 0 0) h
          obtain ⟨a2, h3, _⟩ : ∃ a2, rowR w f k false r1 = .ok a2 r ∧ a = a1 :: a2 := by
            unfold mapR bindR at h2
            cases h3 : rowR w f k false r1 with
            | no _ _ => rw [h3] at h2; cases h2
            | ok a2 r2 => rw [h3] at h2; cases h2; exact ⟨a2, rfl, rfl⟩
          rcases (hf b).rep.rep [] (t :: y) a1 r1 hg h1 with ⟨b2, l1, e1, e2, _⟩ | ⟨b2, e1, e2, e3, _⟩
          · obtain ⟨rfl, rfl⟩ : b2 = [] ∧ l1 = [] := by simpa using e1.symm
            have := (hf b).con _ _ _ h1
            rw [e2] at this
            simp at this
          · rcases rep_row hw hf k false [] r1 a2 r e3 h3 with ⟨b3, l2, g1, g2, _⟩ | ⟨b3, g1, rfl, g3, _⟩
            · exact absurd (List.append_eq_nil_iff.1 g2.symm).1 g1
            · exact .inr ⟨b2 ++ b3, by simp [e1], by rw [e2]; simp, g3, hon⟩
    | cons t l =>
      by_cases ht : t.text = w
      · rw [if_pos (show (hd (t :: l ++ y)).text = w from ht)] at h
        cases h
        refine .inl ⟨[t], l, by simp, rfl, rfl, fun z hz k' hk' => ?_⟩
        obtain ⟨q, rfl⟩ : ∃ q, k' = q + 1 := ⟨k' - 1, by simp at hk'; omega⟩
        rw [rowR]
        unfold optR
        rw [if_pos (show (hd (t :: l ++ z)).text = w from ht)]
        rfl
      · rw [if_neg (show ¬ (hd (t :: l ++ y)).text = w from ht)] at h
        obtain ⟨a1, r1, h1, h2⟩ := hun (x := .no 0 0) h
        exact (hmore a1 r1 h1 (fun z => .inl ht) h2).2 (by simp)
theorem con_row {α : Type} {w : List UInt8} (hw : w ≠ []) {f : Bool → Rd α} (hf : ∀ b, Con (f b)) : ∀ k b, Con (rowR w f k b)
  | 0, _ => fun l a r h => by cases h
  | k + 1, b => con_opt hw (len_pure _) (con_bind (hf b) fun _ => len_map _ (con_row hw hf k false).len)
theorem ru_rowL {α : Type} {w : List UInt8} (hw : w ≠ []) {f : Bool → Rd α} (hf : ∀ b, Ru1 false false (f b)) : Ru1 true true (rowL w f) :=
  ⟨⟨fun l y a r hg h => by
    rcases rep_row hw hf _ true l y a r hg h with ⟨b, l2, _, e1, e2, e3⟩ | ⟨b, e1, e2, e3, e4⟩
    · exact .inl ⟨b, l2, e1, e2, fun z hz _ => e3 z hz _ (Nat.le_refl _)⟩
    · exact .inr ⟨b, e1, e2, e3, fun e he => .inl (e4 e he _ (by simp))⟩⟩, fun e he => by
    refine .inl ?_
    unfold rowL
    rw [show [e].length = 0 + 1 from rfl, rowR, opt_cons, if_neg fun h2 => not_dead hw h2 he]
    unfold bindR
    rcases (hf true).onE e he with h3 | h3
    · rw [h3]
    · exact absurd h3.1 (by decide), fun l a r h => con_row hw (fun b => (hf b).con) _ _ _ _ _ h⟩
theorem ru_step : Ru1 true true stepR := Ru1.opt (by decide) (rep_pure _) (len_pure _) ru_small
theorem len_path : ∀ k, Len (pathR k)
  | 0 => fun l a r h => by cases h
  | k + 1 => len_opt (len_bind ru_step.con.len fun _ => len_map _ (len_path k)) (len_pure _)
theorem path_end (e : Tok) (he : dead e) (l : List Tok) (k' : Nat) (hk : 1 ≤ k') : pathR k' (e :: l) = .ok [] (e :: l) := by
  obtain ⟨q, rfl⟩ : ∃ q, k' = q + 1 := ⟨k' - 1, by omega⟩
  rw [pathR, opt_cons, if_neg fun h2 => not_dead (by decide) h2 he]
  rfl
theorem rep_path : ∀ (k : Nat) (l y : List Tok) (a : List ByteArray) (r : List Tok), Good y → pathR k (l ++ y) = .ok a r →
    (∃ b l2, l = b ++ l2 ∧ r = l2 ++ y ∧ ∀ z, Good z → (l2 ≠ [] ∨ dead (hd z)) → ∀ k', (l ++ z).length ≤ k' → pathR k' (l ++ z) = .ok a (l2 ++ z)) ∨
    (∃ b, b ≠ [] ∧ y = b ++ r ∧ Good r ∧ ∀ e, dead e → ∀ k', l.length + 1 ≤ k' → pathR k' (l ++ [e]) = .no 60 e.pos ∨ ∃ a', pathR k' (l ++ [e]) = .ok a' [e])
  | 0, _, _, _, _, _, h => by cases h
  | k + 1, l, y, a, r, hg, h => by
    have hun : ∀ {x : List Tok}, bindR stepR (fun a => mapR (pathR k) fun r => a :: r) x = .ok a r → ∃ a1 r1 a2, stepR x = .ok a1 r1 ∧ pathR k r1 = .ok a2 r ∧ a = a1 :: a2 := fun {x} h => by
      unfold bindR at h
      cases h1 : stepR x with
      | no _ _ => rw [h1] at h; cases h
      | ok a1 r1 =>
        rw [h1] at h
        unfold mapR bindR at h
        simp only at h
        cases h2 : pathR k r1 with
        | no _ _ => rw [h2] at h; cases h
        | ok a2 r2 => rw [h2] at h; cases h; exact ⟨a1, r1, a2, rfl, h2, rfl⟩
    have hst : ∀ (t : Tok) (x : List Tok) (q : Nat), t.text = wDot → pathR (q + 1) (t :: x) = bindR stepR (fun a => mapR (pathR q) fun r => a :: r) x := fun t x q ht => by
      rw [pathR, opt_cons, if_pos ht]
    have hsn : ∀ (t : Tok) (x : List Tok) (q : Nat), t.text ≠ wDot → pathR (q + 1) (t :: x) = .ok [] (t :: x) := fun t x q ht => by
      rw [pathR, opt_cons, if_neg ht]
      rfl
    cases l with
    | nil =>
      cases y with
      | nil => exact absurd rfl hg.ne
      | cons t y =>
        rw [List.nil_append] at h
        by_cases ht : t.text = wDot
        · rw [hst t y k ht] at h
          obtain ⟨a1, r1, a2, h1, h2, rfl⟩ := hun h
          have hg' := hg.tail (not_dead (by decide) ht)
          rcases ru_step.rep.rep [] y a1 r1 hg' h1 with ⟨b2, l1, e1, e2, _⟩ | ⟨b2, e1, e2, e3, _⟩
          · obtain ⟨rfl, rfl⟩ : b2 = [] ∧ l1 = [] := by simpa using e1.symm
            have := ru_step.con _ _ _ h1
            rw [e2] at this
            simp at this
          · have hend : ∀ e, dead e → ∀ k', ([] : List Tok).length + 1 ≤ k' → pathR k' ([] ++ [e]) = .no 60 e.pos ∨ ∃ a', pathR k' ([] ++ [e]) = .ok a' [e] := fun e he k' hk' => .inr ⟨[], path_end e he [] k' hk'⟩
            rcases rep_path k [] r1 a2 r e3 h2 with ⟨b3, l2, g1, g2, _⟩ | ⟨b3, g1, g2, g3, _⟩
            · obtain ⟨rfl, rfl⟩ : b3 = [] ∧ l2 = [] := by simpa using g1.symm
              rw [List.nil_append] at g2
              subst g2
              exact .inr ⟨t :: b2, by simp, by rw [e2]; rfl, e3, hend⟩
            · exact .inr ⟨t :: (b2 ++ b3), by simp, by rw [e2, g2]; simp, g3, hend⟩
        · rw [hsn t y k ht] at h
          cases h
          refine .inl ⟨[], [], rfl, rfl, fun z hz hq k' hk' => ?_⟩
          cases z with
          | nil => exact absurd rfl hz.ne
          | cons u z => exact path_end u (hq.resolve_left (by simp)) z k' (by simp at hk'; omega)
    | cons t l =>
      by_cases ht : t.text = wDot
      · rw [List.cons_append, hst t _ k ht] at h
        obtain ⟨a1, r1, a2, h1, h2, rfl⟩ := hun h
        have hq : ∀ z, ∀ k', (t :: l ++ z).length ≤ k' → ∃ q, k' = q + 1 ∧ (l ++ z).length ≤ q := fun z k' hk' => ⟨k' - 1, by simp at hk'; omega, by simp at hk' ⊢; omega⟩
        rcases ru_step.rep.rep l y a1 r1 hg h1 with ⟨b2, l1, rfl, rfl, e3⟩ | ⟨b2, e1, rfl, e3, e4⟩
        · rcases rep_path k l1 y a2 r hg h2 with ⟨b3, l2, rfl, rfl, g3⟩ | ⟨b3, g1, rfl, g3, g4⟩
          · refine .inl ⟨t :: (b2 ++ b3), l2, by simp, rfl, fun z hz hz2 k' hk' => ?_⟩
            obtain ⟨q, rfl, hq1⟩ := hq z k' hk'
            rw [List.cons_append, hst t _ q ht]
            unfold bindR
            rw [e3 z hz (.inr (.inr rfl))]
            simp only
            unfold mapR bindR
            rw [g3 z hz hz2 q (by simp at hq1 ⊢; omega)]
            rfl
          · refine .inr ⟨b3, g1, rfl, g3, fun e he k' hk' => ?_⟩
            obtain ⟨q, rfl, hq1⟩ := hq [e] k' (by simp at hk' ⊢; omega)
            rw [List.cons_append, hst t _ q ht]
            unfold bindR
            rw [e3 [e] (Good.one he) (.inr (.inr rfl))]
            simp only
            unfold mapR bindR
            rcases g4 e he q (by simp at hq1 ⊢; omega) with h5 | ⟨a', h5⟩
            · rw [h5]; exact .inl rfl
            · rw [h5]; exact .inr ⟨_, rfl⟩
        · have hend : ∀ e, dead e → ∀ k', (t :: l).length + 1 ≤ k' → pathR k' (t :: l ++ [e]) = .no 60 e.pos ∨ ∃ a', pathR k' (t :: l ++ [e]) = .ok a' [e] := fun e he k' hk' => by
            obtain ⟨q, rfl, _⟩ := hq [e] k' (by simp at hk' ⊢; omega)
            rw [List.cons_append, hst t _ q ht]
            unfold bindR
            rcases e4 e he with h5 | ⟨h5, _⟩
            · rw [h5]; exact .inl rfl
            · cases h5
          rcases rep_path k [] r1 a2 r e3 h2 with ⟨b3, l2, g1, g2, _⟩ | ⟨b3, g1, rfl, g3, _⟩
          · obtain ⟨rfl, rfl⟩ : b3 = [] ∧ l2 = [] := by simpa using g1.symm
            rw [List.nil_append] at g2
            subst g2
            exact .inr ⟨b2, e1, rfl, e3, hend⟩
          · exact .inr ⟨b2 ++ b3, by simp [e1], by simp, g3, hend⟩
      · rw [List.cons_append, hsn t _ k ht] at h
        cases h
        refine .inl ⟨[], t :: l, rfl, rfl, fun z hz _ k' hk' => ?_⟩
        obtain ⟨q, rfl⟩ : ∃ q, k' = q + 1 := ⟨k' - 1, by simp at hk'; omega⟩
        exact hsn t (l ++ z) q ht
theorem rep_pathL : Rep false false fun l => pathR l.length l :=
  ⟨fun l y a r hg h => by
    rcases rep_path _ l y a r hg h with ⟨b, l2, e1, e2, e3⟩ | ⟨b, e1, e2, e3, e4⟩
    · refine .inl ⟨b, l2, e1, e2, fun z hz hq => e3 z hz ?_ _ (Nat.le_refl _)⟩
      rcases hq with hq | hq | hq
      · exact .inl hq
      · exact .inr hq
      · cases hq
    · refine .inr ⟨b, e1, e2, e3, fun e he => ?_⟩
      rcases e4 e he (l ++ [e]).length (by simp) with h5 | h5
      · exact .inl h5
      · exact .inr ⟨rfl, h5⟩⟩
theorem ru_place : Ru1 false false placeR := ru_small.bind (fun _ => rep_map _ rep_pathL (.inr rfl)) fun _ => len_map _ fun l a r h => len_path _ l a r h
theorem ru_alone : Ru1 true true aloneR := ru_small.map _
theorem ru_oper : Ru1 false false operR := Ru1.opt (by decide) (ru_number.map _).any.rep (ru_number.map _).con.len (Ru1.is (fun _ => dead_num) (ru_number.map _).any.rep (ru_number.map _).con (ru_place.map _))
theorem ru_args : Ru1 true true argsR := (ru_need (by decide)).bindL fun _ => ru_rowL (by decide) (ru_sep ru_oper)
theorem Ru1.bindLL {α β : Type} {R : Rd α} {F : α → Rd β} (h : Ru1 false false R) (hF : ∀ a, Rep false false (F a)) (he : ∀ a, OnE false (F a)) (hl : ∀ a, Len (F a)) : Ru1 false false (bindR R F) :=
  ⟨rep_bind h.rep hF (fun hc => by cases hc) (fun hs => by cases hs) (fun _ => he), onE_bind h.onE (fun h => by cases h), con_bind h.con hl⟩
theorem rep_p {α : Type} (a : α) : Rep false false (pureR a) := (rep_pure a).weak (fun h => by cases h) fun h => by cases h
theorem rep_o {α : Type} {w : List UInt8} {yes : Rd α} (a : α) (hw : w ≠ []) (hy : Ru1 false false yes) : Rep false false (optR w yes (pureR a)) ∧ OnE false (optR w yes (pureR a)) ∧ Len (optR w yes (pureR a)) :=
  ⟨rep_opt hw hy.rep (rep_p a) (onE_pure a) fun h => (by cases h), onE_opt hw (onE_pure a), len_opt hy.con.len (len_pure a)⟩
theorem ru_made : Ru1 false false madeR := ru_great.bindL fun _ => Ru1.opt (by decide)
  (ru_great.bind (fun _ => (rep_o _ (by decide) (ru_oper.bindL fun _ => ((ru_need (by decide)).map _).any)).1) fun _ => (rep_o _ (by decide) (ru_oper.bindL fun _ => ((ru_need (by decide)).map _).any)).2.2 : Ru1 false false _).rep
  (ru_great.bind (fun _ => (rep_o _ (by decide) (ru_oper.bindL fun _ => ((ru_need (by decide)).map _).any)).1) fun _ => (rep_o _ (by decide) (ru_oper.bindL fun _ => ((ru_need (by decide)).map _).any)).2.2 : Ru1 false false _).con.len
  (ru_args.map _).any
theorem rep_o2 {α : Type} {w : List UInt8} {yes no : Rd α} (hw : w ≠ []) (hy : Ru1 false false yes) (h : Rep false false no ∧ OnE false no ∧ Len no) : Rep false false (optR w yes no) ∧ OnE false (optR w yes no) ∧ Len (optR w yes no) :=
  ⟨rep_opt hw hy.rep h.1 h.2.1 fun h => (by cases h), onE_opt hw h.2.1, len_opt hy.con.len h.2.2⟩
theorem ru_reckoned : Ru1 false false reckonedR := by
  have h : ∀ a : Op5, _ := fun a => rep_o2 (w := wPlus) (by decide) (ru_oper.map (two5 1 a)) (rep_o2 (w := wMinus) (by decide) (ru_oper.map (two5 2 a)) (rep_o2 (w := wStar) (by decide) (ru_oper.map (two5 3 a)) (rep_o2 (w := wLess) (by decide) (ru_oper.map (two5 4 a)) (rep_o (w := wSame) (⟨0, h0, [a], pl0, nil5, nil5⟩ : Rv5) (by decide) (ru_oper.map (two5 5 a))))))
  exact ru_oper.bindLL (fun a => (h a).1) (fun a => (h a).2.1) fun a => (h a).2.2
theorem ru_set : Ru1 false false setR :=
  have h1 : Ru1 false false (optR wMut (mapR placeR (rvP 7)) (mapR placeR (rvP 6))) := Ru1.opt (by decide) (ru_place.map _).rep (ru_place.map _).con.len (ru_place.map _)
  have h2 : Ru1 false false (bindR smallR fun s => mapR argsR fun l => (⟨12, h0, l, pl0, s, nil5⟩ : Rv5)) := (ru_small.bindL fun _ => (ru_args.map _)).any
  Ru1.opt (by decide) h1.rep h1.con.len (Ru1.opt (by decide) (ru_oper.map _).rep (ru_oper.map _).con.len (Ru1.opt (by decide) (ru_alone.map _).any.rep (ru_alone.map _).con.len (Ru1.opt (by decide) h2.rep h2.con.len
    (Ru1.opt (by decide) (ru_alone.map _).any.rep (ru_alone.map _).con.len (Ru1.opt (by decide) (ru_alone.map _).any.rep (ru_alone.map _).con.len (Ru1.opt (by decide) (ru_oper.map _).rep (ru_oper.map _).con.len (Ru1.is (fun _ => dead_great) ru_made.rep ru_made.con ru_reckoned)))))))
theorem ru_isSet : Ru1 false false isSetR := (ru_need (by decide)).bindL fun _ => ru_set
theorem ru_arm {R : Rd (List St5)} (h : Ru1 true true R) : Ru1 true true (armR R) :=
  ru_great.bindL fun _ => by
    have h1 := rep_o (w := wLP) nil5 (by decide) ((ru_small.bindL fun b => (ru_need (w := wRP) (by decide)).map fun _ => b).any)
    have h2 : ∀ s b, Ru1 true true (bindR (needR wArrow) fun _ => mapR R fun l => (.mk s b h0 l : Ar5)) := fun s b => (ru_need (by decide)).bindL fun _ => h.map _
    exact ⟨rep_bind h1.1 (fun b => (h2 _ b).rep) (fun hc => ⟨hc, .inr fun b => (h2 _ b).con⟩) (fun hs => ⟨hs, .inr fun b => (h2 _ b).onE⟩) fun _ b => (h2 _ b).onE.weak,
      fun e he => by
        have := (h2 · nil5)
        unfold bindR
        rw [opt_cons, if_neg fun h2 => not_dead (by decide) h2 he]
        exact (this _).onE e he, con_bind2 h1.2.2 fun b => (h2 _ b).con⟩
theorem ru_plain (p : Nat) : Ru1 false false (plainR p) :=
  have h1 : Ru1 false false (bindR fieldR fun f => mapR isSetR fun v => st5 0 p f.nm f.ty pl0 v op0 [] [] []) := ru_field.bindL fun _ => ru_isSet.map _
  Ru1.opt (by decide) h1.rep h1.con.len (Ru1.opt (by decide) (ru_oper.map _).rep (ru_oper.map _).con.len (Ru1.opt (by decide) (ru_oper.map _).rep (ru_oper.map _).con.len (Ru1.opt (by decide) (ru_oper.map _).rep (ru_oper.map _).con.len
    (Ru1.opt (by decide) (ru_alone.map _).any.rep (ru_alone.map _).con.len (ru_place.bindL fun _ => ru_isSet.map _)))))
theorem ru_stmt {R : Rd (List St5)} (h : Ru1 true true R) : Ru1 false false (stmtR R) := Ru1.at fun q => by
  have h1 : Ru1 false false (bindR operR fun o => bindR R fun th => optR wElse (mapR R fun el => st5 2 q nil5 ty0 pl0 rv0 o th el []) (pureR (st5 2 q nil5 ty0 pl0 rv0 o th [] []))) :=
    ru_oper.bindL fun o => h.bind (fun th => (rep_o _ (by decide) (h.map _).any).1) fun th => (rep_o _ (by decide) (h.map _).any).2.2
  have h2 : Ru1 false false (bindR operR fun o => mapR R fun th => st5 3 q nil5 ty0 pl0 rv0 o th [] []) := ru_oper.bindL fun o => (h.map _).any
  have h3 : Ru1 false false (bindR aloneR fun p => bindR (needR wLB) fun _ => mapR (rowL wRB fun _ => armR R) fun l => st5 4 q nil5 ty0 p rv0 op0 [] [] l) :=
    (ru_alone.bindL fun _ => (ru_need (by decide)).bindL fun _ => (ru_rowL (by decide) fun _ => (ru_arm h).any).map _).any
  have h4 : Ru1 false false (bindR (plainR q) fun s => mapR (needR wSemi) fun _ => s) := (ru_plain q).bindL fun s => ((ru_need (by decide)).map _).any
  exact Ru1.opt (by decide) h1.rep h1.con.len (Ru1.opt (by decide) h2.rep h2.con.len (Ru1.opt (by decide) h3.rep h3.con.len h4))
theorem never_block : ∀ l a r, blockD 0 l ≠ .ok a r := fun l a r h => by
  unfold blockD isR at h
  split at h
  · cases h
  · cases h
theorem ru_block : ∀ n, Ru1 true true (blockD n)
  | 0 => ⟨rep_never never_block, fun e he => Or.inl (by
      rw [blockD, is_cons, if_neg (by rw [he.2]; decide)]
      rfl), fun l a r h => absurd h (never_block l a r)⟩
  | n + 1 => (ru_need (by decide)).bindL fun _ => ru_rowL (by decide) fun _ => ru_stmt (ru_block n)
theorem ru_struct : Ru1 true true structR := Ru1.at fun q => by
  have h1 : Rep false false (optR wDrop (pureR true) (pureR false)) ∧ Len (optR wDrop (pureR true) (pureR false)) := ⟨rep_opt (by decide) (rep_p _) (rep_p _) (onE_pure _) fun h => (by cases h), len_opt (len_pure _) (len_pure _)⟩
  have h2 : ∀ d, Ru1 true true (bindR (needR wStruct) fun _ => bindR greatR fun s => bindR (needR wLB) fun _ => mapR (rowL wRB (sepR fieldR)) fun l => (⟨s, d, h0, l, q⟩ : Su5)) := fun d =>
    (ru_need (by decide)).bindL fun _ => ru_great.bindL fun _ => (ru_need (by decide)).bindL fun _ => (ru_rowL (by decide) (ru_sep ru_field.any)).map _
  exact ⟨rep_bind h1.1 (fun b => (h2 b).rep) (fun hc => ⟨hc, .inr fun b => (h2 b).con⟩) (fun hs => ⟨hs, .inr fun b => (h2 b).onE⟩) fun _ b => (h2 b).onE.weak,
      fun e he => by
        unfold bindR
        rw [opt_cons, if_neg fun h2 => not_dead (by decide) h2 he]
        exact (h2 false).onE e he, con_bind2 h1.2 fun b => (h2 b).con⟩
theorem ru_enum (q : Nat) : Ru1 true true (enumR q) := ru_great.bindL fun _ => (ru_need (by decide)).bindL fun _ => (ru_rowL (by decide) (ru_sep ru_variant)).map _
theorem ru_fn (q : Nat) : Ru1 true true (fnR q) := ru_small.bindL fun _ => (ru_need (by decide)).bindL fun _ => (ru_rowL (by decide) (ru_sep ru_field.any)).bindL fun _ => (ru_block 60).map _
end Go.Proofs.YtggdpgaedmegbaaGreatDoor
