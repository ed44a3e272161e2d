/-
  Two programs with one text are one (names aside): plain lemmas. No conditions.
-/
import Derived.Test.YtobhfmliaecbjaaDoorText
namespace Go.Proofs.YtobhfmliaecbjaaDoor
open Go.RowKit

def Dig (c : UInt8) : Prop := 48 ≤ c.toNat ∧ c.toNat ≤ 57
def dval (l : List UInt8) : Nat := l.foldl (fun a d => a * 10 + (d.toNat - 48)) 0
theorem dig_nat (k : Nat) (h : k < 10) : (UInt8.ofNat (48 + k)).toNat = 48 + k := by
  rw [UInt8.toNat_ofNat']; omega
theorem decDigits_is : ∀ u, dval (Lib.decDigits u) = u ∧ ∀ c ∈ Lib.decDigits u, Dig c := by
  intro u
  induction u using Nat.strongRecOn with
  | ind u ih =>
    rw [Lib.decDigits]
    split
    · rename_i h
      refine ⟨by unfold dval; simp only [List.foldl_cons, List.foldl_nil, dig_nat u h]; omega, fun c hc => ?_⟩
      obtain rfl := List.mem_singleton.1 hc
      unfold Dig
      rw [dig_nat u h]
      omega
    · rename_i h
      obtain ⟨h1, h2⟩ := ih (u / 10) (by omega)
      have hm : u % 10 < 10 := Nat.mod_lt _ (by omega)
      refine ⟨?_, fun c hc => ?_⟩
      · unfold dval at h1 ⊢
        rw [List.foldl_append, h1]
        simp only [List.foldl_cons, List.foldl_nil, dig_nat _ hm]
        omega
      · rcases List.mem_append.1 hc with h | h
        · exact h2 c h
        · obtain rfl := List.mem_singleton.1 h
          unfold Dig
          rw [dig_nat _ hm]
          omega
theorem decDigits_inj {u v : Nat} (h : Lib.decDigits u = Lib.decDigits v) : u = v := by
  rw [← (decDigits_is u).1, h, (decDigits_is v).1]

/-- a sign of a numeral -/
def Num (c : UInt8) : Prop := c = 45 ∨ Dig c
theorem itoa_num (n : Int) : ∀ c ∈ Lib.itoa n, Num c := fun c hc => by
  unfold Lib.itoa at hc
  split at hc
  · rcases List.mem_cons.1 hc with h | h
    · exact .inl h
    · exact .inr ((decDigits_is _).2 c h)
  · exact .inr ((decDigits_is _).2 c hc)
theorem minus_not {l : List UInt8} {u : Nat} : (45 : UInt8) :: l ≠ Lib.decDigits u := fun h => by
  have := (decDigits_is u).2 45 (by rw [← h]; simp)
  revert this
  unfold Dig
  decide
theorem itoa_inj {n m : Int} (h : Lib.itoa n = Lib.itoa m) : n = m := by
  unfold Lib.itoa at h
  split at h <;> split at h
  · have := decDigits_inj (List.cons.inj h).2
    omega
  · exact absurd h minus_not
  · exact absurd h.symm minus_not
  · have := decDigits_inj h
    omega

def Wordy (l : List UInt8) : Prop := ∀ c ∈ l, c ≠ 32 ∧ c ≠ 10
theorem num_wordy (n : Int) : Wordy (Lib.itoa n) := fun c hc => by
  rcases itoa_num n c hc with rfl | ⟨h1, h2⟩
  · decide
  · constructor
    · rintro rfl; revert h1; decide
    · rintro rfl; revert h1; decide

theorem cut_at : ∀ (a a' : List UInt8) (s s' : UInt8) (r r' : List UInt8), Wordy a → Wordy a' → (s = 32 ∨ s = 10) → (s' = 32 ∨ s' = 10) → a ++ s :: r = a' ++ s' :: r' → a = a' ∧ s = s' ∧ r = r'
  | [], [], s, s', r, r', _, _, _, _, h => by
    simp at h; exact ⟨rfl, h.1, h.2⟩
  | [], c :: a', s, s', r, r', _, h2, h3, _, h => by
    simp at h
    have := h2 c (by simp)
    rw [← h.1] at this
    rcases h3 with rfl | rfl
    · exact absurd rfl this.1
    · exact absurd rfl this.2
  | c :: a, [], s, s', r, r', h1, _, _, h4, h => by
    simp at h
    have := h1 c (by simp)
    rw [h.1] at this
    rcases h4 with rfl | rfl
    · exact absurd rfl this.1
    · exact absurd rfl this.2
  | c :: a, c' :: a', s, s', r, r', h1, h2, h3, h4, h => by
    simp only [List.cons_append, List.cons.injEq] at h
    obtain ⟨e1, e2, e3⟩ := cut_at a a' s s' r r' (fun x hx => h1 x (by simp [hx])) (fun x hx => h2 x (by simp [hx])) h3 h4 h.2
    exact ⟨by rw [h.1, e1], e2, e3⟩

def tl : List Int → List UInt8 → List UInt8
  | [], X => 10 :: X
  | n :: l, X => 32 :: (Lib.itoa n ++ tl l X)
theorem line_tl (word : List UInt8) (X : List UInt8) : ∀ l : List Int, lineB word l ++ X = word ++ tl l X := by
  intro l
  have : ∀ l : List Int, ((l.flatMap fun n => 32 :: Lib.itoa n) ++ [10]) ++ X = tl l X := fun l => by
    induction l with
    | nil => rfl
    | cons n l ih =>
      simp only [List.flatMap_cons, List.cons_append, List.append_assoc, tl] at ih ⊢
      rw [ih]
  rw [lineB, List.append_assoc word, List.append_assoc word, this]
theorem tl_head (l : List Int) (X : List UInt8) : ∃ s r, tl l X = s :: r ∧ (s = 32 ∨ s = 10) := by
  cases l with
  | nil => exact ⟨_, _, rfl, .inr rfl⟩
  | cons n l => exact ⟨_, _, rfl, .inl rfl⟩
theorem word_cut {a a' : List UInt8} {l l' : List Int} {X X' : List UInt8} (h1 : Wordy a) (h2 : Wordy a') (h : a ++ tl l X = a' ++ tl l' X') : a = a' ∧ tl l X = tl l' X' := by
  obtain ⟨s, r, e, hs⟩ := tl_head l X
  obtain ⟨s', r', e', hs'⟩ := tl_head l' X'
  rw [e, e'] at h ⊢
  obtain ⟨q1, q2, q3⟩ := cut_at a a' s s' r r' h1 h2 hs hs' h
  exact ⟨q1, by rw [q2, q3]⟩
theorem tl_inj : ∀ (l l' : List Int) (X X' : List UInt8), tl l X = tl l' X' → l = l' ∧ X = X'
  | [], [], X, X', h => by simp [tl] at h; exact ⟨rfl, h⟩
  | [], n :: l', X, X', h => by simp [tl] at h
  | n :: l, [], X, X', h => by simp [tl] at h
  | n :: l, n' :: l', X, X', h => by
    simp only [tl, List.cons.injEq, true_and] at h
    obtain ⟨h1, h2⟩ := word_cut (num_wordy n) (num_wordy n') h
    obtain ⟨h3, h4⟩ := tl_inj l l' X X' h2
    exact ⟨by rw [itoa_inj h1, h3], h4⟩
theorem line_split {a a' : List UInt8} {l l' : List Int} {X X' : List UInt8} (h1 : Wordy a) (h2 : Wordy a') (h : lineB a l ++ X = lineB a' l' ++ X') : a = a' ∧ l = l' ∧ X = X' := by
  rw [line_tl, line_tl] at h
  obtain ⟨q1, q2⟩ := word_cut h1 h2 h
  exact ⟨q1, tl_inj _ _ _ _ q2⟩

theorem wco : Wordy [99, 111] := fun c hc => by simp at hc; rcases hc with rfl | rfl <;> decide
theorem wfun : Wordy [102, 117, 110] := fun c hc => by simp at hc; rcases hc with rfl | rfl | rfl <;> decide
theorem fun_not_num (n : Int) : ([102, 117, 110] : List UInt8) ≠ Lib.itoa n := fun h => by
  have := itoa_num n 102 (by rw [← h]; simp)
  revert this
  unfold Num Dig
  decide
theorem line_ne (a : List UInt8) (l : List Int) (X : List UInt8) : lineB a l ++ X ≠ [] := by simp [lineB]

theorem ins_inj : ∀ (f f' : List In) (fs fs' : List (List In)), f.flatMap insLine ++ fs.flatMap funLines = f'.flatMap insLine ++ fs'.flatMap funLines → f = f' ∧ fs.flatMap funLines = fs'.flatMap funLines
  | [], [], _, _, h => ⟨rfl, by simpa using h⟩
  | [], x :: f', fs, fs', h => by
    exfalso
    simp only [List.flatMap_nil, List.nil_append, List.flatMap_cons, List.append_assoc, insLine] at h
    cases fs with
    | nil => exact line_ne _ _ _ h.symm
    | cons g gs =>
      simp only [List.flatMap_cons, funLines, List.append_assoc] at h
      exact fun_not_num _ (line_split wfun (num_wordy _) h).1
  | x :: f, [], fs, fs', h => by
    exfalso
    simp only [List.flatMap_nil, List.nil_append, List.flatMap_cons, List.append_assoc, insLine] at h
    cases fs' with
    | nil => exact line_ne _ _ _ h
    | cons g gs =>
      simp only [List.flatMap_cons, funLines, List.append_assoc] at h
      exact fun_not_num _ (line_split wfun (num_wordy _) h.symm).1
  | x :: f, x' :: f', fs, fs', h => by
    simp only [List.flatMap_cons, List.append_assoc] at h
    obtain ⟨q1, q2, q3⟩ := line_split (num_wordy x.op) (num_wordy x'.op) h
    obtain ⟨q4, q5⟩ := ins_inj f f' fs fs' q3
    simp only [List.cons_append, List.nil_append, List.cons.injEq] at q2
    refine ⟨?_, q5⟩
    rw [q4]
    congr 1
    cases x; cases x'
    simp only [In.mk.injEq]
    exact ⟨itoa_inj q1, q2.1, q2.2.1, q2.2.2.1, q2.2.2.2⟩

theorem funs_inj : ∀ fs fs' : List (List In), fs.flatMap funLines = fs'.flatMap funLines → fs = fs'
  | [], [], _ => rfl
  | [], f :: fs', h => by
    exfalso
    simp only [List.flatMap_nil, List.flatMap_cons, funLines, List.append_assoc] at h
    exact line_ne _ _ _ h.symm
  | f :: fs, [], h => by
    exfalso
    simp only [List.flatMap_nil, List.flatMap_cons, funLines, List.append_assoc] at h
    exact line_ne _ _ _ h
  | f :: fs, f' :: fs', h => by
    simp only [List.flatMap_cons, funLines, List.append_assoc] at h
    obtain ⟨_, _, q⟩ := line_split wfun wfun h
    obtain ⟨q1, q2⟩ := ins_inj f f' fs fs' q
    rw [q1, funs_inj fs fs' q2]

theorem text_inj : ∀ (cs cs' : List Cr) (fs fs' : List (List In)), cs.flatMap coLine ++ fs.flatMap funLines = cs'.flatMap coLine ++ fs'.flatMap funLines → cs = cs' ∧ fs = fs'
  | [], [], fs, fs', h => ⟨rfl, funs_inj fs fs' (by simpa using h)⟩
  | [], c :: cs', fs, fs', h => by
    exfalso
    simp only [List.flatMap_nil, List.nil_append, List.flatMap_cons, List.append_assoc, coLine] at h
    cases fs with
    | nil => exact line_ne _ _ _ h.symm
    | cons g gs =>
      simp only [List.flatMap_cons, funLines, List.append_assoc] at h
      exact absurd (line_split wfun wco h).1 (by decide)
  | c :: cs, [], fs, fs', h => by
    exfalso
    simp only [List.flatMap_nil, List.nil_append, List.flatMap_cons, List.append_assoc, coLine] at h
    cases fs' with
    | nil => exact line_ne _ _ _ h
    | cons g gs =>
      simp only [List.flatMap_cons, funLines, List.append_assoc] at h
      exact absurd (line_split wfun wco h.symm).1 (by decide)
  | c :: cs, c' :: cs', fs, fs', h => by
    simp only [List.flatMap_cons, List.append_assoc] at h
    obtain ⟨_, q2, q3⟩ := line_split wco wco h
    obtain ⟨q4, q5⟩ := text_inj cs cs' fs fs' q3
    simp only [List.cons.injEq, and_true] at q2
    refine ⟨?_, q5⟩
    rw [q4]
    congr 1
    cases c; cases c'
    simp only [Cr.mk.injEq]
    exact ⟨q2.1, q2.2.1, q2.2.2.1, q2.2.2.2⟩
theorem textB_inj {p q : Pg} (h : textB p = textB q) : p = q := by
  obtain ⟨h1, h2⟩ := text_inj _ _ _ _ h
  cases p; cases q
  simp only [Pg.mk.injEq]
  exact ⟨h2, h1⟩
end Go.Proofs.YtobhfmliaecbjaaDoor
