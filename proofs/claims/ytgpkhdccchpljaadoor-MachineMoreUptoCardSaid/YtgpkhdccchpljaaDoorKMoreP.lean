/-
  More room and more fuel turn nothing but where a run ends by them: a plain simulation on the model. Conditions: none but that the more is no less.
-/
import Derived.Test.YtgpkhdccchpljaaDoorKJNum
namespace Go.Proofs.YtgpkhdccchpljaaDoor
open Go.RowKit
open M (Wd MS loadR storeR copyR clearR freeR allocR)
open C (In Cr Pg)

def upS (r : Int) (S : MS) : MS := ⟨S.room + r, S.blocks⟩
def upE (r d : Int) (s : Se) : Se := ⟨upS r s.S, s.told, s.fuel + d, s.rs⟩
def upQ (r d : Int) (q : Out × Se) : Out × Se := (q.1, upE r d q.2)

theorem upS_at (r : Int) (S : MS) (k : Nat) : (upS r S).at k = S.at k := rfl
theorem upS_words (r : Int) (S : MS) : (upS r S).words = S.words := rfl
theorem upS_setb (r : Int) (S : MS) (k : Nat) (o : Option (List M.Cl)) : (upS r S).setb k o = upS r (S.setb k o) := rfl
theorem find_up (r : Int) (S : MS) (b : Bool) (a : Int) : M.findE (upS r S) b a = M.findE S b a := rfl
theorem span_up (r : Int) (S : MS) (b : Bool) (a n c : Int) : M.spanE (upS r S) b a n c = M.spanE S b a n c := rfl
theorem stored_up (r : Int) (S : MS) (b : Bool) (a n c : Int) : M.storedE (upS r S) b a n c = M.storedE S b a n c := rfl
theorem load_up (r : Int) (S : MS) (b : Bool) (a n : Int) : loadR (upS r S) b a n = loadR S b a n := rfl
theorem num_up (r : Int) (S : MS) (x : Wd) (k : Int) : numR (upS r S) x k = numR S x k := rfl
theorem look_up (p : Pg) (r : Int) (S : MS) (x : Wd) : lookR p (upS r S) x = lookR p S x := rfl
def upP (r : Int) (q : Int × MS) : Int × MS := (q.1, upS r q.2)
theorem ite_p {α : Type} {f : α → α} {P P' : Prop} [Decidable P] [Decidable P'] (hp : P' ↔ P) {a b a' b' : α} (ha : a' = f a) (hb : b' = f b) : (if P' then a' else b') = f (if P then a else b) := by
  by_cases h : P
  · rw [if_pos h, if_pos (hp.2 h)]; exact ha
  · rw [if_neg h, if_neg (fun e => h (hp.1 e))]; exact hb
theorem store_up (r : Int) (S : MS) (b : Bool) (a n : Int) (x : Wd) : storeR (upS r S) b a n x = upP r (storeR S b a n x) := by
  unfold storeR
  exact ite_p (f := upP r) Iff.rfl rfl rfl
theorem clear_up (r : Int) (S : MS) (b : Bool) (a n c : Int) : clearR (upS r S) b a n c = upP r (clearR S b a n c) := by
  unfold clearR
  exact ite_p (f := upP r) Iff.rfl rfl (ite_p (f := upP r) Iff.rfl rfl rfl)
theorem free_up (r : Int) (S : MS) (b : Bool) (a n : Int) : freeR (upS r S) b a n = upP r (freeR S b a n) := by
  unfold freeR
  exact ite_p (f := upP r) Iff.rfl rfl (ite_p (f := upP r) Iff.rfl rfl rfl)
theorem copy_up (r : Int) (S : MS) (b : Bool) (a n : Int) (b' : Bool) (a' n' c : Int) : copyR (upS r S) b a n b' a' n' c = upP r (copyR S b a n b' a' n' c) := by
  unfold copyR
  exact ite_p (f := upP r) Iff.rfl rfl (ite_p (f := upP r) Iff.rfl rfl (ite_p (f := upP r) Iff.rfl rfl (ite_p (f := upP r) Iff.rfl rfl rfl)))
theorem alloc_up {r : Int} (hr : 0 ≤ r) (S : MS) (n : Int) (h : (allocR S n).1.2 ≠ 10) : allocR (upS r S) n = ((allocR S n).1, upS r (allocR S n).2) := by
  unfold allocR at h ⊢
  by_cases h0 : n < 0
  · rw [if_pos h0, if_pos h0]
  rw [if_neg h0] at h ⊢
  rw [if_neg h0]
  by_cases h1 : S.room - S.words < n
  · rw [if_pos h1] at h; exact absurd rfl h
  · rw [if_neg h1, if_neg (by show ¬ S.room + r - ((S.words : Nat) : Int) < n; omega)]
    rfl
theorem lay_up (r : Int) (S : MS) (x : Wd) (k n : Int) : layR (upS r S) x k n = upS r (layR S x k n) := by
  unfold layR
  rw [store_up]
  rfl
theorem layArgs_up (r : Int) (x : Wd) : ∀ (l : List Int) (i : Nat) (S : MS), layArgs (upS r S) x l i = upS r (layArgs S x l i)
  | [], _, _ => rfl
  | n :: l, i, S => by
    simp only [layArgs]
    rw [lay_up, layArgs_up r x l]
theorem frame_up {r : Int} (hr : 0 ≤ r) (p : Pg) (S : MS) (co : Int) (args : List Int) (h : (frameR p S co args).1.2 ≠ 10) : frameR p (upS r S) co args = ((frameR p S co args).1, upS r (frameR p S co args).2) := by
  unfold frameR at h ⊢
  by_cases h1 : (allocR S (coOf p co).wo).1.2 ≠ 0
  · rw [if_pos h1] at h
    have h2 := alloc_up hr S (coOf p co).wo h
    rw [if_pos h1, h2, if_pos h1]
  · have h10 : (allocR S (coOf p co).wo).1.2 ≠ 10 := by simp at h1; omega
    have h2 := alloc_up hr S (coOf p co).wo h10
    rw [if_neg h1, h2, if_neg h1]
    simp only [lay_up, layArgs_up]
theorem word_up {m : Int} (hm : 0 ≤ m) (p : Pg) (S : MS) (r : Ru) (x : In) (h : (wordR p S r x).1.2 ≠ 10) : wordR p (upS m S) r x = ((wordR p S r x).1, upS m (wordR p S r x).2) := by
  unfold wordR at h ⊢
  by_cases h1 : x.op = 1
  · rw [if_pos h1, if_pos h1]
  rw [if_neg h1] at h ⊢
  rw [if_neg h1]
  by_cases h2 : x.op = 2
  · rw [if_pos h2, if_pos h2]
  rw [if_neg h2] at h ⊢
  rw [if_neg h2]
  by_cases h3 : x.op = 3
  · rw [if_pos h3, if_pos h3, load_up]
  rw [if_neg h3] at h ⊢
  rw [if_neg h3]
  by_cases h4 : x.op = 16
  · rw [if_pos h4] at h ⊢
    rw [if_pos h4]
    exact alloc_up hm S x.c h
  rw [if_neg h4] at h ⊢
  rw [if_neg h4]
  by_cases h5 : x.op = 22
  · rw [if_pos h5] at h ⊢
    rw [if_pos h5]
    exact frame_up hm p S x.b [] h
  · rw [if_neg h5, if_neg h5]
theorem change_up (m : Int) (S : MS) (r : Ru) (x : In) : changeR (upS m S) r x = upP m (changeR S r x) := by
  unfold changeR
  refine ite_p (f := upP m) Iff.rfl (store_up _ _ _ _ _ _) (ite_p (f := upP m) Iff.rfl (copy_up _ _ _ _ _ _ _ _ _) (ite_p (f := upP m) Iff.rfl ?_ (ite_p (f := upP m) Iff.rfl (clear_up _ _ _ _ _ _) (free_up _ _ _ _ _))))
  rw [copy_up]
  exact ite_p (f := upP m) Iff.rfl rfl (clear_up _ _ _ _ _ _)

theorem goOn_up (m d : Int) (p : Pg) (s : Se) (x : Wd) : goOnR p (upE m d s) x = upQ m d (goOnR p s x) := by
  unfold goOnR
  rw [show lookR p (upE m d s).S x = lookR p s.S x from rfl]
  by_cases h1 : (lookR p s.S x).2.2 ≠ 0
  · rw [if_pos h1, if_pos h1]; rfl
  rw [if_neg h1, if_neg h1]
  by_cases h2 : (lookR p s.S x).1 = -1
  · rw [if_pos h2, if_pos h2]; rfl
  rw [if_neg h2, if_neg h2]
  by_cases h3 : (lookR p s.S x).1 = -2
  · rw [if_pos h3, if_pos h3]; rfl
  rw [if_neg h3, if_neg h3]
  rfl
theorem undo_up (m d : Int) (p : Pg) (s : Se) (x : Wd) : undoR p (upE m d s) x = upQ m d (undoR p s x) := by
  unfold undoR
  rw [show lookR p (upE m d s).S x = lookR p s.S x from rfl]
  by_cases h1 : (lookR p s.S x).2.2 ≠ 0
  · rw [if_pos h1, if_pos h1]; rfl
  rw [if_neg h1, if_neg h1]
  by_cases h2 : (lookR p s.S x).1 < 0
  · rw [if_pos h2, if_pos h2]; rfl
  rw [if_neg h2, if_neg h2]
  rfl
theorem ite_up {P : Prop} [Decidable P] {m d : Int} {a b a' b' : Out × Se} (ha : a' = upQ m d a) (hb : b' = upQ m d b) : (if P then a' else b') = upQ m d (if P then a else b) := by
  by_cases h : P
  · rw [if_pos h, if_pos h]; exact ha
  · rw [if_neg h, if_neg h]; exact hb
theorem exec_up {m : Int} (hm : 0 ≤ m) (d : Int) (c : Cx) (s : Se) (r : Ru) (rs : List Ru) (x : In) : (execR c s r rs x).1.k = 5 ∨ execR c (upE m d s) r rs x = upQ m d (execR c s r rs x) := by
  unfold execR
  by_cases c1 : x.op = 0 ∨ x.op = 1 ∨ x.op = 2 ∨ x.op = 3 ∨ x.op = 16 ∨ x.op = 22
  · rw [if_pos c1, if_pos c1]
    by_cases h : (wordR c.p s.S r x).1.2 = 10
    · left
      simp only [h]
      rfl
    · right
      rw [show (upE m d s).S = upS m s.S from rfl, word_up hm c.p s.S r x h]
      rfl
  right
  rw [if_neg c1, if_neg c1]
  by_cases c2 : x.op = 4 ∨ x.op = 5 ∨ x.op = 6 ∨ x.op = 7 ∨ x.op = 17
  · rw [if_pos c2, if_pos c2, show (upE m d s).S = upS m s.S from rfl, change_up]
    rfl
  rw [if_neg c2, if_neg c2]
  refine ite_up (ite_up rfl (ite_up rfl rfl)) ?_
  refine ite_up rfl ?_
  refine ite_up (ite_up rfl (ite_up rfl rfl)) ?_
  refine ite_up (ite_up rfl (ite_up rfl rfl)) ?_
  refine ite_up (ite_up rfl (ite_up rfl (ite_up rfl rfl))) ?_
  refine ite_up (ite_up rfl ?_) ?_
  · cases brought c.evs (r.get x.b).n <;> rfl
  refine ite_up (goOn_up _ _ _ _ _) ?_
  refine ite_up (goOn_up _ _ _ _ _) ?_
  refine ite_up (undo_up _ _ _ _ _) ?_
  refine ite_up rfl ?_
  refine ite_up rfl ?_
  rw [show (upE m d s).S = upS m s.S from rfl, store_up]
  exact ite_p (f := upQ m d) Iff.rfl rfl rfl
theorem step_up {m d : Int} (hm : 0 ≤ m) (hd : 0 ≤ d) (c : Cx) (s : Se) : ((stepR c s).1.k = 4 ∨ (stepR c s).1.k = 5) ∨ stepR c (upE m d s) = upQ m d (stepR c s) := by
  unfold stepR
  by_cases h : s.fuel ≤ 0
  · left; left; rw [if_pos h]
  rw [if_neg h, if_neg (show ¬ (upE m d s).fuel ≤ 0 by show ¬ s.fuel + d ≤ 0; omega)]
  rw [show (upE m d s).rs = s.rs from rfl]
  cases hr : s.rs with
  | nil => left; left; rfl
  | cons r rs =>
    simp only
    rcases exec_up hm d c { s with fuel := s.fuel - 1, rs := { r with nx := r.nx + 1 } :: rs } { r with nx := r.nx + 1 } rs (r.fn.getD r.nx noIn) with h5 | h5
    · left; right; exact h5
    · right
      rw [← h5]
      unfold upE
      simp only
      rw [show s.fuel + d - 1 = s.fuel - 1 + d by omega]
theorem settle_up (m d : Int) (c : Cx) (o : Out) (s : Se) : settleR c o (upE m d s) = upQ m d (settleR c o s) := by
  unfold settleR
  rw [show (upE m d s).rs = s.rs from rfl]
  cases s.rs with
  | nil => rfl
  | cons r rs =>
    simp only
    refine ite_up rfl ?_
    refine ite_up ?_ ?_
    · rw [show (upE m d s).S = upS m s.S from rfl, free_up]
      rfl
    refine ite_up rfl ?_
    refine ite_up ?_ ?_
    · by_cases h : o.k = 0
      · simp only [if_pos h]; rfl
      · simp only [if_neg h]; rfl
    exact ite_up rfl rfl

/-- more of both: the same end, or an end by them -/
theorem thr_up {m d : Int} (hm : 0 ≤ m) (hd : 0 ≤ d) {c : Cx} {q z : Out × Se} (h : Thr c q z) : (z.1.k = 4 ∨ z.1.k = 5) ∨ Thr c (upQ m d q) (upQ m d z) := by
  induction h with
  | @done q h1 =>
    right
    refine .done ?_
    unfold thr1 at h1 ⊢
    rw [show (upQ m d q).1 = q.1 from rfl, show (upQ m d q).2.rs = q.2.rs from rfl]
    by_cases k1 : q.1.k = -1
    · rw [if_pos k1] at h1; cases h1
    rw [if_neg k1] at h1 ⊢
    by_cases k2 : q.1.k = 4 ∨ q.1.k = 5 ∨ q.1.k = 6
    · rw [if_pos k2]
    rw [if_neg k2] at h1 ⊢
    by_cases k3 : q.2.rs = []
    · rw [if_pos k3]
    rw [if_neg k3] at h1
    cases h1
  | @next q q' z h1 h2 ih =>
    have hend : (q'.1.k = 4 ∨ q'.1.k = 5) → (z.1.k = 4 ∨ z.1.k = 5) := fun hk => by
      have h3 : thr1 c q' = none := by
        unfold thr1
        rw [if_neg (by omega), if_pos (by omega)]
      have := Thr.det h2 (.done h3)
      rw [this]
      exact hk
    have key : (q'.1.k = 4 ∨ q'.1.k = 5) ∨ thr1 c (upQ m d q) = some (upQ m d q') := by
      unfold thr1 at h1 ⊢
      rw [show (upQ m d q).1 = q.1 from rfl, show (upQ m d q).2 = upE m d q.2 from rfl, show (upE m d q.2).rs = q.2.rs from rfl]
      by_cases k1 : q.1.k = -1
      · rw [if_pos k1] at h1 ⊢
        cases h1
        rcases step_up hm hd c q.2 with h4 | h4
        · exact .inl h4
        · exact .inr (congrArg some h4)
      rw [if_neg k1] at h1 ⊢
      by_cases k2 : q.1.k = 4 ∨ q.1.k = 5 ∨ q.1.k = 6
      · rw [if_pos k2] at h1; cases h1
      rw [if_neg k2] at h1 ⊢
      by_cases k3 : q.2.rs = []
      · rw [if_pos k3] at h1; cases h1
      rw [if_neg k3] at h1 ⊢
      cases h1
      exact .inr (congrArg some (settle_up _ _ _ _ _))
    rcases key with h4 | h4
    · exact .inl (hend h4)
    · rcases ih with h5 | h5
      · exact .inl h5
      · exact .inr (.next h4 h5)
end Go.Proofs.YtgpkhdccchpljaaDoor
