/-
  The plain model of lexis: texts as rows of bytes, and what their tokens are. No conditions.
-/
namespace Go.Proofs.YthhkndnmeafanaaDoor

def letterB (c : UInt8) : Bool := decide (97 ≤ c.toNat ∧ c.toNat ≤ 122) || decide (65 ≤ c.toNat ∧ c.toNat ≤ 90)
def greatB (c : UInt8) : Bool := decide (65 ≤ c.toNat ∧ c.toNat ≤ 90)
def digitB (c : UInt8) : Bool := decide (48 ≤ c.toNat ∧ c.toNat ≤ 57)
def nameB (c : UInt8) : Bool := letterB c || digitB c || decide (c.toNat = 95)
def blankB (c : UInt8) : Bool := decide (c.toNat = 32) || decide (c.toNat = 9) || decide (c.toNat = 10)
def lineB (c : UInt8) : Bool := !decide (c.toNat = 10)

def spanN (f : UInt8 → Bool) : List UInt8 → Nat
  | [] => 0
  | c :: r => if f c then spanN f r + 1 else 0

def slashes (l : List UInt8) : Bool := decide (l.take 2 = [47, 47])

/-- How many bytes are passed (true: in a remark). -/
def passN : Bool → List UInt8 → Nat
  | _, [] => 0
  | true, c :: r => if lineB c then passN true r + 1 else passN false r + 1
  | false, c :: r => if blankB c then passN false r + 1 else if slashes (c :: r) then passN true r + 1 else 0

def numV (l : List UInt8) : Nat := l.foldl (fun a c => a * 10 + (c.toNat - 48)) 0

def longL : List (List UInt8) := [[58, 58], [61, 61], [61, 62], [45, 62]]
def shortL : List UInt8 := [123, 125, 40, 41, 44, 59, 58, 46, 42, 38, 61, 43, 45, 60]

def signN (l : List UInt8) : Nat :=
  if l.take 2 ∈ longL then 2 else
  match l with
  | [] => 0
  | c :: _ => if c ∈ shortL then 1 else 0

structure Tok where
  k : Int
  text : List UInt8
  n : Nat
  pos : Nat
  deriving DecidableEq

inductive TokR where
  | err (e : Int)
  | tok (k : Int) (m : Nat) (n : Nat)

def tokR : List UInt8 → TokR
  | [] => .err 40
  | c :: r =>
    if letterB c then (if spanN nameB r + 1 ≤ 24 then .tok 1 (spanN nameB r + 1) 0 else .err 42)
    else if digitB c then (if numV ((c :: r).take (spanN digitB (c :: r))) < 9223372036854775808 then .tok 2 (spanN digitB (c :: r)) (numV ((c :: r).take (spanN digitB (c :: r)))) else .err 41)
    else if signN (c :: r) = 0 then .err 40 else .tok 3 (signN (c :: r)) 0

inductive Res where
  | bad (e : Int) (pos : Nat)
  | good (ts : List Tok)

def Res.pre (ts : List Tok) : Res → Res
  | .bad e p => .bad e p
  | .good us => .good (ts ++ us)

theorem Res.pre_nil (r : Res) : r.pre [] = r := by cases r <;> rfl
theorem Res.pre_pre (a b : List Tok) (r : Res) : (r.pre b).pre a = r.pre (a ++ b) := by cases r <;> simp [Res.pre]

def lexP : Nat → Nat → List UInt8 → Res
  | 0, _, _ => .good []
  | _ + 1, _, [] => .good []
  | f + 1, p, c :: r =>
    match tokR (c :: r) with
    | .err e => .bad e p
    | .tok k m n => (lexP f (p + m + passN false ((c :: r).drop m)) (((c :: r).drop m).drop (passN false ((c :: r).drop m)))).pre [⟨k, (c :: r).take m, n, p⟩]

def lexQ (p : Nat) (l : List UInt8) : Res := lexP (l.length + 1) p l

/-- The tokens of a piece of a text that begins at p. -/
def lexT (p : Nat) (l : List UInt8) : Res := lexQ (p + passN false l) (l.drop (passN false l))

def lexL (l : List UInt8) : Res := if l.length ≤ 65536 then lexT 0 l else .bad 43 0

theorem spanN_le (f : UInt8 → Bool) : ∀ l, spanN f l ≤ l.length
  | [] => Nat.le_refl _
  | c :: r => by
    unfold spanN
    split
    · simpa using spanN_le f r
    · simp

theorem passN_le : ∀ b l, passN b l ≤ l.length
  | true, [] => by simp [passN]
  | false, [] => by simp [passN]
  | true, c :: r => by
    unfold passN
    have := passN_le true r
    have := passN_le false r
    split <;> simp <;> omega
  | false, c :: r => by
    unfold passN
    have := passN_le true r
    have := passN_le false r
    split
    · simp; omega
    · split <;> simp <;> omega

theorem signN_le (l : List UInt8) : signN l ≤ l.length := by
  unfold signN
  split
  · rename_i h
    have : (l.take 2).length = 2 := by
      simp [longL] at h
      rcases h with h | h | h | h <;> rw [h] <;> rfl
    simp at this
    omega
  · cases l with
    | nil => simp
    | cons c r =>
      have : (if c ∈ shortL then 1 else 0) ≤ 1 := by split <;> omega
      simp only [List.length_cons]
      omega

theorem tokR_len {l : List UInt8} {k : Int} {m n : Nat} (h : tokR l = .tok k m n) : 1 ≤ m ∧ m ≤ l.length := by
  cases l with
  | nil => simp [tokR] at h
  | cons c r =>
    simp only [tokR] at h
    split at h
    · split at h
      · cases h
        have := spanN_le nameB r
        simp; omega
      · cases h
    · split at h
      · rename_i hd
        split at h
        · cases h
          refine ⟨?_, spanN_le _ _⟩
          simp [spanN, hd]
        · cases h
      · split at h
        · cases h
        · cases h
          exact ⟨by omega, signN_le _⟩

theorem lexP_fuel : ∀ (f g p : Nat) (l : List UInt8), l.length < f → l.length < g → lexP f p l = lexP g p l
  | 0, _, _, _, h, _ => by omega
  | _, 0, _, _, _, h => by omega
  | f + 1, g + 1, p, [], _, _ => rfl
  | f + 1, g + 1, p, c :: r, hf, hg => by
    simp only [lexP]
    split
    · rfl
    · rename_i k m n h
      have := tokR_len h
      rw [lexP_fuel f g]
      · simp at hf ⊢; omega
      · simp at hg ⊢; omega

theorem lexQ_nil (p : Nat) : lexQ p [] = .good [] := rfl

theorem lexQ_err {p : Nat} {l : List UInt8} {e : Int} (hl : l ≠ []) (h : tokR l = .err e) : lexQ p l = .bad e p := by
  cases l with
  | nil => exact absurd rfl hl
  | cons c r => simp only [lexQ, lexP, h]

theorem lexQ_tok {p : Nat} {l : List UInt8} {k : Int} {m n : Nat} (h : tokR l = .tok k m n) : lexQ p l = (lexT (p + m) (l.drop m)).pre [⟨k, l.take m, n, p⟩] := by
  cases l with
  | nil => simp [tokR] at h
  | cons c r =>
    have := tokR_len h
    simp only [lexT, lexQ, lexP, h, List.length_cons]
    rw [lexP_fuel (r.length + 1) (((((c :: r).drop m).drop (passN false ((c :: r).drop m)))).length + 1)]
    · simp at this ⊢; omega
    · omega

/-- One more blank. -/
theorem lexT_blank (p : Nat) (c : UInt8) (r : List UInt8) (h : blankB c = true) : lexT p (c :: r) = lexT (p + 1) r := by
  simp only [lexT, passN, h, if_true, List.drop_succ_cons]
  congr 1
  omega

theorem passN_true (l : List UInt8) : passN true l = spanN lineB l + passN false (l.drop (spanN lineB l)) := by
  induction l with
  | nil => rfl
  | cons c r ih =>
    cases h : lineB c
    · have hb : blankB c = true := by
        simp [lineB] at h
        simp [blankB, h]
      simp [passN, spanN, h, hb]
    · simp only [passN, spanN, h, if_true, List.drop_succ_cons, ih]
      omega

theorem slashes_cons {l : List UInt8} (h : slashes l = true) : ∃ r, l = 47 :: 47 :: r := by
  simp [slashes] at h
  match l, h with
  | a :: b :: r, h =>
    simp at h
    exact ⟨r, by rw [h.1, h.2]⟩

/-- A remark is passed to its line's end. -/
theorem passN_remark (l : List UInt8) (h : slashes l = true) : passN false l = spanN lineB l + passN false (l.drop (spanN lineB l)) := by
  obtain ⟨r, rfl⟩ := slashes_cons h
  rw [← passN_true]
  simp [passN, blankB, slashes, lineB]

theorem lexT_remark (p : Nat) (l : List UInt8) (h : slashes l = true) : lexT p l = lexT (p + spanN lineB l) (l.drop (spanN lineB l)) := by
  simp only [lexT, List.drop_drop]
  rw [passN_remark l h, Nat.add_assoc]

theorem lexT_tok (p : Nat) (l : List UInt8) (h : passN false l = 0) : lexT p l = lexQ p l := by
  simp [lexT, h]

theorem passN_zero {c : UInt8} {r : List UInt8} (h1 : blankB c = false) (h2 : slashes (c :: r) = false) : passN false (c :: r) = 0 := by
  simp [passN, h1, h2]

/-- What is passed ends ahead of a token, or at the text's end. -/
theorem passN_stop : ∀ (b : Bool) (l : List UInt8), passN false (l.drop (passN b l)) = 0
  | b, [] => by simp [passN]
  | true, c :: r => by
    cases h : lineB c
    · simp only [passN, h, Bool.false_eq_true, if_false, List.drop_succ_cons]
      exact passN_stop false r
    · simp only [passN, h, if_true, List.drop_succ_cons]
      exact passN_stop true r
  | false, c :: r => by
    cases h : blankB c
    · cases h2 : slashes (c :: r)
      · rw [passN_zero h h2]
        exact passN_zero h h2
      · simp only [passN, h, h2, Bool.false_eq_true, if_false, if_true, List.drop_succ_cons]
        exact passN_stop true r
    · simp only [passN, h, if_true, List.drop_succ_cons]
      exact passN_stop false r

/-- A blank's run. -/
theorem passN_blanks (l : List UInt8) : passN false l = spanN blankB l + passN false (l.drop (spanN blankB l)) := by
  induction l with
  | nil => rfl
  | cons c r ih =>
    cases h : blankB c
    · simp [spanN, h]
    · simp only [passN, spanN, h, if_true, List.drop_succ_cons, ih]
      omega

theorem spanN_head {f : UInt8 → Bool} {l : List UInt8} {c : UInt8} {r : List UInt8} (h : l.drop (spanN f l) = c :: r) : f c = false := by
  induction l with
  | nil => simp at h
  | cons a t ih =>
    cases ha : f a
    · simp [spanN, ha] at h
      rw [← h.1]; exact ha
    · simp only [spanN, ha, if_true, List.drop_succ_cons] at h
      exact ih h

end Go.Proofs.YthhkndnmeafanaaDoor
