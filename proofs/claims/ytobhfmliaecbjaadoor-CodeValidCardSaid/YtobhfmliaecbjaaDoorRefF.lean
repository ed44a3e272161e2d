/-
  The document's own marking of what is written ahead: the plain account. No conditions: definitions and lemmas.
-/
import Derived.Test.YtobhfmliaecbjaaDoorFn
namespace Go.Proofs.YtobhfmliaecbjaaDoor
open Go.RowKit

/-- of each place which registers are written ahead of it, if it was met -/
abbrev Mb := List (Option (List Bool))
def nowL (l : List Bool) (x : In) : List Bool := match writesO x with
  | some r => l.set r.toNat true
  | none => l
def nextL (x : In) (k : Nat) : List Int := x.l ++ if fallsB x.op then [(k : Int) + 1] else []

theorem mem_next {x : In} {k j : Nat} : (j : Int) ∈ nextL x k ↔ goes x k j := by
  unfold nextL goes
  cases fallsB x.op
  · simp
  · rw [if_pos rfl, List.mem_append, List.mem_singleton]
    constructor
    · rintro (h | h)
      · exact .inl h
      · exact .inr ⟨rfl, by omega⟩
    · rintro (h | ⟨_, h⟩)
      · exact .inl h
      · exact .inr (by omega)

structure RInv (f : List In) (z : Nat → Bool) (st : Mb) : Prop where
  len : st.length = f.length
  row : ∀ (i : Nat) (l : List Bool), st[i]? = some (some l) → l.length = 16
  zero : ∃ l, st[0]? = some (some l) ∧ ∀ r : Nat, l[r]? = some true → z r = true
  sound : ∀ (i : Nat) (l : List Bool) (r : Nat), st[i]? = some (some l) → l[r]? = some false → Un f z r i

/-- place j is met, and has no more than out -/
def Flw (st : Mb) (out : List Bool) (j : Nat) : Prop := ∃ l', st[j]? = some (some l') ∧ ∀ r : Nat, l'[r]? = some true → out[r]? = some true
def Clo (f : List In) (st : Mb) (k : Nat) : Prop := ∀ (l : List Bool) (x : In), st[k]? = some (some l) → f[k]? = some x → ∀ j, goes x k j → Flw st (nowL l x) j

def wtb : Option (List Bool) → Nat
  | none => 17
  | some l => l.count true
def ph (st : Mb) : Nat := (st.map wtb).sum

theorem ph_set : ∀ (st : Mb) (i : Nat) (o o' : Option (List Bool)), st[i]? = some o → ph (st.set i o') + wtb o = ph st + wtb o'
  | [], _, _, _, h => by simp at h
  | a :: st, 0, o, o', h => by
    simp at h; subst h
    simp [ph]; omega
  | a :: st, i + 1, o, o', h => by
    have := ph_set st i o o' (by simpa using h)
    simp only [ph, List.set_cons_succ, List.map_cons, List.sum_cons] at this ⊢
    omega
theorem ph_le (st : Mb) (h : ∀ (i : Nat) (l : List Bool), st[i]? = some (some l) → l.length = 16) : ph st ≤ 17 * st.length := by
  have key : ∀ st : Mb, (∀ o ∈ st, wtb o ≤ 17) → ph st ≤ 17 * st.length := by
    intro st
    induction st with
    | nil => intro _; simp [ph]
    | cons a st ih =>
      intro h
      have h1 := h a (by simp)
      have h2 := ih fun o ho => h o (by simp [ho])
      simp only [ph, List.map_cons, List.sum_cons, List.length_cons] at h2 ⊢
      omega
  refine key st fun o ho => ?_
  obtain ⟨i, hi⟩ := List.getElem?_of_mem ho
  cases o with
  | none => exact Nat.le_refl _
  | some l =>
    have h1 : wtb (some l) ≤ l.length := List.count_le_length
    have := h i l hi
    omega
theorem count_set : ∀ (l : List Bool) (r : Nat), l[r]? = some true → (l.set r false).count true + 1 = l.count true
  | [], _, h => by simp at h
  | a :: l, 0, h => by simp at h; subst h; simp
  | a :: l, r + 1, h => by
    have := count_set l r (by simpa using h)
    simp only [List.set_cons_succ, List.count_cons]
    omega

theorem nowL_len (l : List Bool) (x : In) : (nowL l x).length = l.length := by unfold nowL; split <;> simp
/-- what is not written behind an instruction was not ahead of it -/
theorem nowL_false {l : List Bool} {x : In} {r : Nat} (hl : l.length = 16) (hw : ∀ n, writesO x = some n → 0 ≤ n ∧ n < 16) (h : (nowL l x)[r]? = some false) : l[r]? = some false ∧ writesO x ≠ some (r : Int) := by
  unfold nowL at h
  cases hx : writesO x with
  | none => rw [hx] at h; exact ⟨h, by simp⟩
  | some n =>
    rw [hx] at h
    obtain ⟨h0, h1⟩ := hw n hx
    simp only [List.getElem?_set] at h
    split at h
    · rename_i e
      rw [if_pos (by omega)] at h
      simp at h
    · rename_i e
      refine ⟨h, fun e2 => e ?_⟩
      have : n = r := Option.some.inj e2
      omega
theorem nowL_true {l : List Bool} {x : In} {r : Nat} (h : (nowL l x)[r]? = some true) (hw : writesO x ≠ some (r : Int)) (hw2 : ∀ n, writesO x = some n → 0 ≤ n ∧ n < 16) : l[r]? = some true := by
  unfold nowL at h
  cases hx : writesO x with
  | none => rw [hx] at h; exact h
  | some n =>
    rw [hx] at h hw
    obtain ⟨h0, h1⟩ := hw2 n hx
    simp only [List.getElem?_set] at h
    split at h
    · rename_i e
      exact absurd (by rw [← e]; simp; omega) hw
    · exact h

theorem RInv.out {f : List In} {z : Nat → Bool} {st : Mb} (h : RInv f z st) (hF : Fit f) {k : Nat} {l : List Bool} {x : In} (hl : st[k]? = some (some l)) (hx : f[k]? = some x) {j : Nat} (hg : goes x k j) {r : Nat} (hr : (nowL l x)[r]? = some false) : Un f z r j := by
  obtain ⟨h1, h2⟩ := nowL_false (h.row k l hl) (hF.writes k x hx) hr
  exact .step (h.sound k l r hl h1) hx h2 hg

theorem bit_cases {l : List Bool} (hl : l.length = 16) {r : Nat} (hr : r < 16) : l[r]? = some true ∨ l[r]? = some false := by
  have : l[r]? = some l[r] := List.getElem?_eq_getElem (by omega)
  rw [this]
  cases l[r] <;> simp

/-- all places closed: a way without a write shows -/
theorem RInv.un {f : List In} {z : Nat → Bool} {st : Mb} (h : RInv f z st) (hF : Fit f) (hC : ∀ k, k < f.length → Clo f st k) {r : Nat} (hr : r < 16) {i : Nat} (hu : Un f z r i) : ∃ l, st[i]? = some (some l) ∧ l[r]? = some false := by
  induction hu with
  | start hz =>
    obtain ⟨l, h1, h2⟩ := h.zero
    refine ⟨l, h1, ?_⟩
    rcases bit_cases (h.row 0 l h1) hr with h3 | h3
    · have := h2 r h3; rw [hz] at this; cases this
    · exact h3
  | @step i j x _ hx hw hg ih =>
    obtain ⟨l, h1, h2⟩ := ih
    obtain ⟨l', h3, h4⟩ := hC i (List.getElem?_eq_some_iff.1 hx).1 l x h1 hx j hg
    refine ⟨l', h3, ?_⟩
    rcases bit_cases (h.row j l' h3) hr with h5 | h5
    · have := nowL_true (h4 r h5) hw (hF.writes i x hx)
      rw [h2] at this; cases this
    · exact h5

/-- a place is set anew -/
theorem RInv.put {f : List In} {z : Nat → Bool} {st : Mb} (h : RInv f z st) {n : Nat} {o : Option (List Bool)} (ho : st[n]? = some o) (l' : List Bool) (h16 : l'.length = 16) (hs : ∀ r : Nat, l'[r]? = some false → Un f z r n) (ht : ∀ l, o = some l → ∀ r : Nat, l'[r]? = some true → l[r]? = some true) :
    RInv f z (st.set n (some l')) := by
  have hn : n < st.length := (List.getElem?_eq_some_iff.1 ho).1
  refine ⟨by rw [List.length_set]; exact h.len, fun i l hi => ?_, ?_, fun i l r hi hr => ?_⟩
  · rw [List.getElem?_set] at hi
    split at hi
    · first | (cases hi; exact h16) | (rw [if_pos (by omega)] at hi; cases hi; exact h16)
    · exact h.row i l hi
  · obtain ⟨l, h1, h2⟩ := h.zero
    by_cases e : n = 0
    · subst e
      rw [h1] at ho
      cases ho
      exact ⟨l', by simp [hn], fun r hr => h2 r (ht l rfl r hr)⟩
    · exact ⟨l, by rw [List.getElem?_set, if_neg e]; exact h1, h2⟩
  · rw [List.getElem?_set] at hi
    split at hi
    · rename_i e
      subst e
      first | (cases hi; exact hs r hr) | (rw [if_pos (by omega)] at hi; cases hi; exact hs r hr)
    · exact h.sound i l r hi hr

theorem RInv.start (f : List In) (k : Int) (hf : 0 < f.length) : RInv f (zk k).testBit ((List.replicate f.length none).set 0 (some ((k == 0) :: List.replicate 15 false))) := by
  have h0 : ((List.replicate f.length (none : Option (List Bool))).set 0 (some ((k == 0) :: List.replicate 15 false)))[0]? = some (some ((k == 0) :: List.replicate 15 false)) := by simp [hf]
  have hz : ∀ r : Nat, ((k == 0) :: List.replicate 15 false)[r]? = some true → r = 0 ∧ k = 0 := fun r hr => by
    cases r with
    | zero => simpa using hr
    | succ r =>
      rw [List.getElem?_cons_succ, List.getElem?_replicate] at hr
      split at hr <;> simp at hr
  refine ⟨by simp, fun i l hi => ?_, ⟨_, h0, fun r hr => ?_⟩, fun i l r hi hr => ?_⟩
  · cases i with
    | zero => rw [h0] at hi; cases hi; simp
    | succ i =>
      rw [List.getElem?_set, if_neg (by omega), List.getElem?_replicate] at hi
      split at hi <;> simp at hi
  · obtain ⟨rfl, rfl⟩ := hz r hr
    rfl
  · cases i with
    | zero =>
      rw [h0] at hi
      cases hi
      refine .start ?_
      cases r with
      | zero =>
        have hk : ¬ k = 0 := by simpa using hr
        simp [zk, hk]
      | succ r =>
        unfold zk
        split
        · rw [Nat.testBit_succ]; simp
        · simp
    | succ i =>
      rw [List.getElem?_set, if_neg (by omega), List.getElem?_replicate] at hi
      split at hi <;> simp at hi

/-- within a pass: what has turned, and what is known where nothing has -/
structure Pass (f : List In) (z : Nat → Bool) (st0 st : Mb) (v : Bool) (Q : Prop) : Prop where
  inv : RInv f z st
  still : v = false → st = st0 ∧ Q
  less : v = true → ph st < ph st0

theorem Pass.mono {f : List In} {z : Nat → Bool} {st0 st : Mb} {v : Bool} {Q Q' : Prop} (h : Pass f z st0 st v Q) (hq : v = false → st = st0 → Q → Q') : Pass f z st0 st v Q' :=
  ⟨h.inv, fun hv => ⟨(h.still hv).1, hq hv (h.still hv).1 (h.still hv).2⟩, h.less⟩
theorem Pass.le {f : List In} {z : Nat → Bool} {st0 st : Mb} {v : Bool} {Q : Prop} (h : Pass f z st0 st v Q) : ph st ≤ ph st0 := by
  cases v with
  | false => rw [(h.still rfl).1]; exact Nat.le_refl _
  | true => exact Nat.le_of_lt (h.less rfl)
theorem Pass.mark {f : List In} {z : Nat → Bool} {st0 st : Mb} {v : Bool} {Q : Prop} (h : Pass f z st0 st v Q) {n : Nat} (hn : st[n]? = some none) (out : List Bool) (h16 : out.length = 16) (hs : ∀ r : Nat, out[r]? = some false → Un f z r n) (Q' : Prop) :
    Pass f z st0 (st.set n (some out)) true Q' := by
  refine ⟨h.inv.put hn out h16 hs (fun l e => by cases e), (fun e => by cases e), fun _ => ?_⟩
  have h1 := ph_set st n none (some out) hn
  have h2 : wtb (some out) ≤ out.length := List.count_le_length
  have h3 := h.le
  simp only [wtb] at h1 h2
  omega
theorem Pass.clear {f : List In} {z : Nat → Bool} {st0 st : Mb} {v : Bool} {Q : Prop} (h : Pass f z st0 st v Q) {n : Nat} {l : List Bool} (hn : st[n]? = some (some l)) {r : Nat} (hr : l[r]? = some true) (hs : Un f z r n) (Q' : Prop) :
    Pass f z st0 (st.set n (some (l.set r false))) true Q' := by
  have h16 := h.inv.row n l hn
  refine ⟨h.inv.put hn _ (by rw [List.length_set]; exact h16) (fun q hq => ?_) (fun l' e q hq => ?_), (fun e => by cases e), fun _ => ?_⟩
  · rw [List.getElem?_set] at hq
    split at hq
    · rename_i e; subst e; exact hs
    · exact h.inv.sound n l q hn hq
  · cases e
    rw [List.getElem?_set] at hq
    split at hq
    · split at hq <;> simp at hq
    · exact hq
  · have h1 := ph_set st n _ (some (l.set r false)) hn
    have h2 := count_set l r hr
    have h3 := h.le
    simp only [wtb] at h1
    omega
end Go.Proofs.YtobhfmliaecbjaaDoor
