/-
  What holds of the plain model: places, two texts with a newline between, names. No conditions.
-/
import Derived.Test.YthhkndnmeafanaaDoorLModel
namespace Go.Proofs.YthhkndnmeafanaaDoor

/-- What a piece's tokens are, one step. -/
theorem lexT_cases (p : Nat) (l : List UInt8) :
    (l.drop (passN false l) = [] ∧ lexT p l = .good []) ∨
    (∃ e, l.drop (passN false l) ≠ [] ∧ tokR (l.drop (passN false l)) = .err e ∧ lexT p l = .bad e (p + passN false l)) ∨
    (∃ k m n, 1 ≤ m ∧ passN false l + m ≤ l.length ∧ tokR (l.drop (passN false l)) = .tok k m n ∧
      lexT p l = (lexT (p + passN false l + m) (l.drop (passN false l + m))).pre [⟨k, (l.drop (passN false l)).take m, n, p + passN false l⟩]) := by
  have hle := passN_le false l
  cases h : l.drop (passN false l) with
  | nil => exact .inl ⟨rfl, by simp only [lexT, h]; rfl⟩
  | cons c r =>
    cases ht : tokR (c :: r) with
    | err e =>
      refine .inr (.inl ⟨e, by simp, rfl, ?_⟩)
      simp only [lexT, h]
      exact lexQ_err (by simp) ht
    | tok k m n =>
      have hm := tokR_len ht
      have hl : (l.drop (passN false l)).length = (c :: r).length := by rw [h]
      simp only [List.length_drop] at hl
      refine .inr (.inr ⟨k, m, n, hm.1, by omega, rfl, ?_⟩)
      rw [← List.drop_drop, h]
      conv => lhs; rw [lexT, h]
      exact lexQ_tok ht

theorem lexT_bad {p : Nat} {l : List UInt8} {e : Int} {q : Nat} (h : lexT p l = .bad e q) : p ≤ q ∧ q < p + l.length ∧ e ≠ 0 := by
  have hle := passN_le false l
  rcases lexT_cases p l with ⟨_, h1⟩ | ⟨f, h0, h2, h1⟩ | ⟨k, m, n, h2, h3, _, h1⟩
  · rw [h1] at h; cases h
  · rw [h1] at h
    cases h
    have : (l.drop (passN false l)).length ≠ 0 := fun e => h0 (List.length_eq_zero_iff.1 e)
    simp only [List.length_drop] at this
    refine ⟨by omega, by omega, ?_⟩
    cases hd : l.drop (passN false l) with
    | nil => exact absurd hd h0
    | cons c r =>
      rw [hd] at h2
      simp only [tokR] at h2
      split at h2
      · split at h2
        · cases h2
        · cases h2; decide
      · split at h2
        · split at h2
          · cases h2
          · cases h2; decide
        · split at h2
          · cases h2; decide
          · cases h2
  · rw [h1] at h
    cases h4 : lexT (p + passN false l + m) (l.drop (passN false l + m)) with
    | good us => rw [h4] at h; cases h
    | bad f q' =>
      rw [h4] at h
      cases h
      have := lexT_bad h4
      simp only [List.length_drop] at this
      omega
termination_by l.length
decreasing_by simp only [List.length_drop]; omega

theorem tokR_k {l : List UInt8} {k : Int} {m n : Nat} (h : tokR l = .tok k m n) : k = 1 ∨ k = 2 ∨ k = 3 := by
  cases l with
  | nil => cases h
  | cons c r =>
    simp only [tokR] at h
    split at h
    · split at h <;> cases h; simp
    · split at h
      · split at h <;> cases h; simp
      · split at h <;> cases h; simp

/-- The first of a piece's tokens. -/
theorem lexT_good {p : Nat} {l : List UInt8} {ts : List Tok} (h : lexT p l = .good ts) :
    (ts = [] ∧ passN false l = l.length) ∨
    (∃ t us, ts = t :: us ∧ t.pos = p + passN false l ∧ 1 ≤ t.text.length ∧ passN false l + t.text.length ≤ l.length ∧ t.text = (l.drop (passN false l)).take t.text.length ∧ (t.k = 1 ∨ t.k = 2 ∨ t.k = 3) ∧ tokR (l.drop (passN false l)) = .tok t.k t.text.length t.n ∧
      lexT (p + passN false l + t.text.length) (l.drop (passN false l + t.text.length)) = .good us) := by
  have hle := passN_le false l
  rcases lexT_cases p l with ⟨h0, h1⟩ | ⟨f, h0, h2, h1⟩ | ⟨k, m, n, h2, h3, h4, h1⟩
  · rw [h1] at h
    cases h
    have : (l.drop (passN false l)).length = 0 := by rw [h0]; rfl
    simp only [List.length_drop] at this
    exact .inl ⟨rfl, by omega⟩
  · rw [h1] at h; cases h
  · rw [h1] at h
    have hlen : ((l.drop (passN false l)).take m).length = m := by simp only [List.length_take, List.length_drop]; omega
    cases h5 : lexT (p + passN false l + m) (l.drop (passN false l + m)) with
    | bad f q' => rw [h5] at h; cases h
    | good us =>
      rw [h5] at h
      cases h
      refine .inr ⟨_, us, rfl, rfl, ?_⟩
      simp only [hlen]
      exact ⟨h2, h3, by trivial, tokR_k h4, h4, h5⟩

/-- What is passed, by itself. -/
theorem passN_gap : ∀ (b : Bool) (l : List UInt8), passN b (l.take (passN b l) ++ [10]) = passN b l + 1
  | true, [] => by decide
  | false, [] => by decide
  | true, c :: r => by
    cases h : lineB c
    · simp only [passN, h, Bool.false_eq_true, if_false, List.take_succ_cons, List.cons_append, passN_gap false r]
    · simp only [passN, h, if_true, List.take_succ_cons, List.cons_append, passN_gap true r]
  | false, c :: r => by
    cases h : blankB c
    · cases h2 : slashes (c :: r)
      · rw [passN_zero h h2]
        simp [passN, blankB]
      · obtain ⟨r', hr⟩ := slashes_cons h2
        cases hr
        have h3 : ∀ x, slashes (47 :: 47 :: x) = true := fun x => by simp [slashes]
        have h4 := passN_gap true (47 :: r')
        have e1 : passN true (47 :: r') = passN true r' + 1 := by simp [passN, lineB]
        rw [e1] at h4
        simp only [List.take_succ_cons, List.cons_append] at h4
        have e2 : passN false (47 :: 47 :: r') = passN true r' + 1 + 1 := by simp [passN, h, h3, lineB]
        rw [e2]
        simp only [List.take_succ_cons, List.cons_append]
        rw [passN]
        simp only [h, h3, h4, Bool.false_eq_true, if_false, if_true]
    · simp only [passN, h, if_true, List.take_succ_cons, List.cons_append, passN_gap false r]

theorem lexT_gap (p : Nat) (l : List UInt8) : lexT p (l.take (passN false l) ++ [10]) = .good [] := by
  have h := passN_gap false l
  have hl : (l.take (passN false l) ++ [10]).length = passN false l + 1 := by
    have := passN_le false l
    simp only [List.length_append, List.length_take, List.length_singleton]
    omega
  rw [lexT, h, List.drop_eq_nil_of_le (by omega)]
  rfl

/-- Two texts with a newline between. -/
theorem passN_glue : ∀ (b : Bool) (x y : List UInt8), passN b (x ++ 10 :: y) = if passN b x = x.length then x.length + 1 + passN false y else passN b x
  | true, [], y => by simp [passN, lineB]; omega
  | false, [], y => by simp [passN, blankB]; omega
  | true, c :: r, y => by
    have h1 := passN_glue true r y
    have h2 := passN_glue false r y
    cases h : lineB c
    · simp only [passN, h, Bool.false_eq_true, if_false, List.cons_append, h2, List.length_cons]
      by_cases e : passN false r = r.length <;> simp [e]; omega
    · simp only [passN, h, if_true, List.cons_append, h1, List.length_cons]
      by_cases e : passN true r = r.length <;> simp [e]; omega
  | false, c :: r, y => by
    have h1 := passN_glue true r y
    have h2 := passN_glue false r y
    cases h : blankB c
    · have h3 : slashes (c :: (r ++ 10 :: y)) = slashes (c :: r) := by
        cases r with
        | nil => simp [slashes]
        | cons d t => simp [slashes]
      cases h4 : slashes (c :: r)
      · rw [passN_zero h h4]
        rw [List.cons_append, passN_zero h (h3.trans h4)]
        simp
      · simp only [passN, h, h3, h4, Bool.false_eq_true, if_false, if_true, List.cons_append, h1, List.length_cons]
        by_cases e : passN true r = r.length <;> simp [e]; omega
    · simp only [passN, h, if_true, List.cons_append, h2, List.length_cons]
      by_cases e : passN false r = r.length <;> simp [e]; omega

theorem spanN_glue (f : UInt8 → Bool) (hf : f 10 = false) (x y : List UInt8) : spanN f (x ++ 10 :: y) = spanN f x := by
  induction x with
  | nil => simp [spanN, hf]
  | cons c r ih => simp only [List.cons_append, spanN, ih]

theorem signN_glue (c : UInt8) (r y : List UInt8) : signN (c :: r ++ 10 :: y) = signN (c :: r) := by
  cases r with
  | nil =>
    simp only [signN, List.cons_append, List.nil_append, List.take, longL]
    simp
  | cons d t => simp [signN]; rfl

theorem tokR_glue (c : UInt8) (r y : List UInt8) : tokR (c :: r ++ 10 :: y) = tokR (c :: r) := by
  have h1 := spanN_glue nameB (by decide) r y
  have h2 := spanN_glue digitB (by decide) (c :: r) y
  have h3 := signN_glue c r y
  have h4 : ((c :: r) ++ 10 :: y).take (spanN digitB (c :: r)) = (c :: r).take (spanN digitB (c :: r)) := List.take_append_of_le_length (spanN_le _ _)
  simp only [List.cons_append] at h2 h3 h4 ⊢
  simp only [tokR, h1, h2, h3, h4]

theorem lexT_glue (p : Nat) (x y : List UInt8) : lexT p (x ++ 10 :: y) = match lexT p x with
    | .bad e q => .bad e q
    | .good ts => (lexT (p + x.length + 1) y).pre ts := by
  have hle := passN_le false x
  have hg := passN_glue false x y
  rcases lexT_cases p x with ⟨h0, h1⟩ | ⟨f, h0, h2, h1⟩ | ⟨k, m, n, h2, h3, h4, h1⟩
  · have : (x.drop (passN false x)).length = 0 := by rw [h0]; rfl
    simp only [List.length_drop] at this
    have e : passN false x = x.length := by omega
    rw [if_pos e] at hg
    rw [h1]
    simp only [Res.pre_nil]
    rw [lexT, hg, lexT]
    congr 1
    · omega
    · rw [List.drop_append, List.drop_eq_nil_of_le (by omega)]
      have : x.length + 1 + passN false y - x.length = passN false y + 1 := by omega
      rw [this]
      simp
  · have : (x.drop (passN false x)).length ≠ 0 := fun e => h0 (List.length_eq_zero_iff.1 e)
    simp only [List.length_drop] at this
    rw [if_neg (by omega)] at hg
    rw [h1, lexT, hg, List.drop_append_of_le_length hle]
    cases hd : x.drop (passN false x) with
    | nil => exact absurd hd h0
    | cons c r =>
      rw [hd] at h2
      exact lexQ_err (by simp) ((tokR_glue c r y).trans h2)
  · rw [if_neg (by omega)] at hg
    rw [h1, lexT, hg, List.drop_append_of_le_length hle]
    have ih := lexT_glue (p + passN false x + m) (x.drop (passN false x + m)) y
    have hdl : (x.drop (passN false x + m)).length = x.length - (passN false x + m) := by simp
    cases hd : x.drop (passN false x) with
    | nil => rw [hd] at h4; cases h4
    | cons c r =>
      rw [hd] at h4
      have hm := tokR_len h4
      rw [lexQ_tok ((tokR_glue c r y).trans h4), List.drop_append_of_le_length hm.2, List.take_append_of_le_length hm.2]
      rw [← hd, List.drop_drop, ih]
      cases lexT (p + passN false x + m) (x.drop (passN false x + m)) with
      | bad e q => rfl
      | good ts =>
        have : p + passN false x + m + (x.length - (passN false x + m)) + 1 = p + x.length + 1 := by omega
        rw [hdl, this]
        exact Res.pre_pre _ _ _
termination_by x.length
decreasing_by simp only [List.length_drop]; omega

def Tok.shift (d : Nat) (t : Tok) : Tok := { t with pos := t.pos + d }

theorem lexT_shift (d p : Nat) (l : List UInt8) : lexT (p + d) l = match lexT p l with
    | .bad e q => .bad e (q + d)
    | .good ts => .good (ts.map (Tok.shift d)) := by
  rcases lexT_cases p l with ⟨h0, h1⟩ | ⟨f, h0, h2, h1⟩ | ⟨k, m, n, h2, h3, h4, h1⟩
  · rw [h1]
    rw [lexT, h0]
    rfl
  · rw [h1]
    rw [lexT, lexQ_err h0 h2]
    simp only [Res.bad.injEq, true_and]
    omega
  · have ih := lexT_shift d (p + passN false l + m) (l.drop (passN false l + m))
    rw [h1]
    rw [lexT, lexQ_tok h4, List.drop_drop]
    have e1 : p + d + passN false l + m = p + passN false l + m + d := by omega
    rw [e1, ih]
    cases lexT (p + passN false l + m) (l.drop (passN false l + m)) with
    | bad e q => rfl
    | good ts =>
      simp only [Res.pre, List.map_append, List.map_cons, List.map_nil, Tok.shift, Res.good.injEq]
      congr 3
      omega
termination_by l.length
decreasing_by simp only [List.length_drop]; omega

/-- Names. -/
def wordB : List UInt8 → Bool
  | [] => false
  | c :: r => decide (r.length + 1 ≤ 24) && letterB c && decide (spanN nameB r = r.length)

def upperB (l : List UInt8) : Bool := wordB l && (match l with | [] => false | c :: _ => greatB c)

theorem letter_not_blank {c : UInt8} (h : letterB c = true) : blankB c = false := by
  simp only [letterB, Bool.or_eq_true, decide_eq_true_eq] at h
  simp only [blankB, Bool.or_eq_false_iff, decide_eq_false_iff_not]
  omega

theorem letter_not_slash {c : UInt8} {r : List UInt8} (h : letterB c = true) : slashes (c :: r) = false := by
  simp only [letterB, Bool.or_eq_true, decide_eq_true_eq] at h
  cases h2 : slashes (c :: r) with
  | false => rfl
  | true =>
    obtain ⟨r', hr⟩ := slashes_cons h2
    cases hr
    simp at h

theorem lexL_word {l : List UInt8} (h : wordB l = true) : lexL l = .good [⟨1, l, 0, 0⟩] := by
  cases l with
  | nil => cases h
  | cons c r =>
    simp only [wordB, Bool.and_eq_true, decide_eq_true_eq] at h
    obtain ⟨⟨h1, h2⟩, h3⟩ := h
    have ht : tokR (c :: r) = .tok 1 (r.length + 1) 0 := by simp [tokR, h2, h3, h1]
    rw [lexL, if_pos (by simp; omega), lexT_tok _ _ (passN_zero (letter_not_blank h2) (letter_not_slash h2)), lexQ_tok ht]
    rw [List.drop_eq_nil_of_le (by simp), List.take_of_length_le (by simp)]
    rfl

theorem one_word {l : List UInt8} {n p : Nat} (hl : l.length ≤ 65536) (h : lexL l = .good [⟨1, l, n, p⟩]) : wordB l = true := by
  rw [lexL, if_pos hl] at h
  rcases lexT_good h with ⟨h1, _⟩ | ⟨t, us, h1, h2, h3, h4, h5, _, h6, _⟩
  · cases h1
  · cases h1
    simp only at h3 h4 h6
    have h0 : passN false l = 0 := by omega
    rw [h0, List.drop_zero] at h6
    cases l with
    | nil => simp at h3
    | cons c r =>
      simp only [tokR] at h6
      split at h6
      · rename_i hc
        split at h6
        · simp only [TokR.tok.injEq, List.length_cons] at h6
          simp only [wordB, Bool.and_eq_true, decide_eq_true_eq]
          exact ⟨⟨by omega, hc⟩, by omega⟩
        · cases h6
      · split at h6
        · split at h6 <;> cases h6
        · split at h6 <;> cases h6

end Go.Proofs.YthhkndnmeafanaaDoor
