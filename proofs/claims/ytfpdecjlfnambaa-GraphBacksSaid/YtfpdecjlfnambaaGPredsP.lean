/-
  Graph: which blocks go to each, as plain lists. No conditions: laws alone.
-/
import Derived.Test.YtfpdecjlfnambaaGNewP
namespace Go.Proofs.Ytfpdecjlfnambaa
open Go Go.RowKit

/-- Which of the first k blocks go to x, each once. -/
def prdK (g : Gb) (k x : Nat) : List Nat := (List.range k).filter fun i => decide (x ∈ tos g i)
/-- .. and block k, as far as j of its goings are gone through. -/
def prdJ (g : Gb) (k j x : Nat) : List Nat := prdK g k x ++ if x ∈ (tos g k).take j then [k] else []
theorem prdK_succ (g : Gb) (k x : Nat) : prdK g (k + 1) x = prdJ g k (tos g k).length x := by
  rw [prdJ, List.take_length, prdK, List.range_succ, List.filter_append]
  congr 1
  by_cases h : x ∈ tos g k
  · rw [if_pos h, List.filter_cons, if_pos (by simpa using h)]
    rfl
  · rw [if_neg h, List.filter_cons, if_neg (by simpa using h)]
    rfl
theorem prdJ_zero (g : Gb) (k x : Nat) : prdJ g k 0 x = prdK g k x := by simp [prdJ]
theorem prdK_lt {g : Gb} {k x i : Nat} (h : i ∈ prdK g k x) : i < k := by
  have := (List.mem_filter.1 h).1
  exact List.mem_range.1 this
theorem prdJ_len (g : Gb) (k j x : Nat) : (prdJ g k j x).length ≤ k + 1 := by
  have h1 : (prdK g k x).length ≤ k := by
    have := List.length_filter_le (fun i => decide (x ∈ tos g i)) (List.range k)
    rw [List.length_range] at this
    exact this
  rw [prdJ, List.length_append]
  split
  · rw [List.length_singleton]
    omega
  · rw [List.length_nil]
    omega
theorem take_mem {l : List Nat} {j : Nat} (h : j < l.length) (x : Nat) : x ∈ l.take (j + 1) ↔ x ∈ l.take j ∨ x = l[j] := mem_take_succ h x
theorem prdJ_other {g : Gb} {k j x : Nat} (h : j < (tos g k).length) (hx : x ≠ (tos g k)[j]) : prdJ g k (j + 1) x = prdJ g k j x := by
  rw [prdJ, prdJ]
  by_cases h1 : x ∈ (tos g k).take j
  · rw [if_pos h1, if_pos ((take_mem h x).2 (.inl h1))]
  · rw [if_neg h1, if_neg (fun e => ((take_mem h x).1 e).elim h1 hx)]
/-- Whether the last one that is told is the block itself: then it is not told again. -/
theorem prdJ_last (g : Gb) (k j x : Nat) : (prdJ g k j x).getLast? = some k ↔ x ∈ (tos g k).take j := by
  by_cases h : x ∈ (tos g k).take j
  · rw [prdJ, if_pos h]
    simp [h]
  · rw [prdJ, if_neg h, List.append_nil]
    refine ⟨fun e => ?_, fun e => absurd e h⟩
    have := prdK_lt (List.mem_of_getLast? e)
    omega
theorem prdJ_new {g : Gb} {k j : Nat} (h : j < (tos g k).length) (hn : (tos g k)[j] ∉ (tos g k).take j) : prdJ g k (j + 1) (tos g k)[j] = prdJ g k j (tos g k)[j] ++ [k] := by
  rw [prdJ, prdJ, if_neg hn, if_pos ((take_mem h _).2 (.inr rfl)), List.append_nil]
theorem prdJ_old {g : Gb} {k j : Nat} (h : j < (tos g k).length) (hn : (tos g k)[j] ∈ (tos g k).take j) : prdJ g k (j + 1) (tos g k)[j] = prdJ g k j (tos g k)[j] := by
  rw [prdJ, prdJ, if_pos hn, if_pos ((take_mem h _).2 (.inr rfl))]
/-- The rows while they grow: each owned, no two in one block. -/
structure PdAt (W : World) (base pr : Nat) (vs : List Value) (P : Nat → List Nat) : Prop where
  rows : Bx W pr 42 vs
  own : ∀ x, x < vs.length → ∃ v, vs[x]? = some v ∧ W.ownsRow base 3 1 v (P x).length (nC (P x))
  apart : ∀ (x y : Nat) (v u : Value) (b : Nat), vs[x]? = some v → vs[y]? = some u → v.ownBlock = some b → u.ownBlock = some b → x = y
theorem PdAt.start {W : World} {base pr L : Nat} {P : Nat → List Nat} (h : Bx W pr 42 (List.replicate L (.slice none 0 0))) (hP : ∀ x, P x = []) : PdAt W base pr (List.replicate L (.slice none 0 0)) P :=
  ⟨h, fun x hx => ⟨.slice none 0 0, by rw [List.getElem?_replicate, if_pos (by simpa using hx)], by rw [hP]; exact World.ownsRow_nil _ _ _ _⟩, fun x y v u b hv _ hb _ => by
    have := List.mem_of_getElem? hv
    rw [List.mem_replicate] at this
    rw [this.2] at hb
    cases hb⟩
theorem PdAt.put {W : World} {base pr : Nat} {vs : List Value} {P : Nat → List Nat} (h : PdAt W base pr vs P) {r : Nat} {o : Obj} (o' : Obj) (hr : W.heap[r]? = some o) (ho : o.isCells = false) : PdAt (W.putObj r o') base pr vs P :=
  ⟨h.rows.put o' hr ho, fun x hx => by
    obtain ⟨v, h1, h2⟩ := h.own x hx
    exact ⟨v, h1, own_put h2 o' hr ho⟩, h.apart⟩
theorem PdAt.below {W W' : World} {base pr : Nat} {vs : List Value} {P : Nat → List Nat} (h : PdAt W base pr vs P) (hB : Below W.heap.size W W') : PdAt W' base pr vs P :=
  ⟨h.rows.below hB h.rows.lt, fun x hx => by
    obtain ⟨v, h1, h2⟩ := h.own x hx
    exact ⟨v, h1, own_kep h2 (Kep.of_below (M := fun _ => False) hB) (fun _ _ h => h)⟩, h.apart⟩
/-- One row grows. -/
theorem PdAt.step {W w5 : World} {base pr y g : Nat} {vs : List Value} {P : Nat → List Nat} {u v' : Value} {l : List Nat} (h : PdAt W base pr vs P) (hu : vs[y]? = some u) (hk : Kep (fun b => u.ownBlock = some b) W w5)
    (ho : w5.ownsRow base 3 1 v' l.length (nC l)) (hv : v'.ownBlock = u.ownBlock ∨ ∃ g, v'.ownBlock = some g ∧ W.heap.size ≤ g) : PdAt (w5.setCell ⟨pr, y, none⟩ v') base pr (vs.set y v') (fun x => if x = y then l else P x) := by
  have hyl := (List.getElem?_eq_some_iff.1 hu).1
  have hb5 : Bx w5 pr 42 vs := h.rows.kep hk (fun e => by
    obtain ⟨u', h1, h2⟩ := h.own y hyl
    rw [hu] at h1
    cases h1
    exact own_ne h2 h.rows (fun cs fr e => by cases e) e)
  have hset : ∀ {v : Value} {n : Nat} {xs : List Value}, w5.ownsRow base 3 1 v n xs → (w5.setCell ⟨pr, y, none⟩ v').ownsRow base 3 1 v n xs := fun ho' => own_kep ho' (Kep.setCell (M := fun b => b = pr) (p := ⟨pr, y, none⟩) (Kep.refl _ w5) (.inr rfl) v') (fun g hg e => by
    subst e
    exact own_ne ho' hb5 (fun cs fr e => by cases e) hg)
  refine ⟨hb5.set y v', fun x hx => ?_, fun x z a b q ha hb hqa hqb => ?_⟩
  · rw [List.length_set] at hx
    by_cases e : x = y
    · subst e
      refine ⟨v', by rw [List.getElem?_set, if_pos rfl, if_pos hx], ?_⟩
      simp only [if_pos rfl, ↓reduceIte]
      exact hset ho
    · obtain ⟨v, h1, h2⟩ := h.own x hx
      refine ⟨v, by rw [List.getElem?_set, if_neg (fun x => e x.symm)]; exact h1, ?_⟩
      simp only [if_neg e]
      exact hset (own_kep h2 hk (fun g hg e' => e (h.apart x y v u g h1 hu hg e')))
  · have old : ∀ x v, x ≠ y → (vs.set y v')[x]? = some v → vs[x]? = some v := fun x v hne hx => by
      rw [List.getElem?_set, if_neg (fun e => hne e.symm)] at hx
      exact hx
    have new : ∀ v, (vs.set y v')[y]? = some v → v = v' := fun v hx => by
      rw [List.getElem?_set, if_pos rfl, if_pos hyl] at hx
      exact (Option.some.inj hx).symm
    have key : ∀ x v, x ≠ y → vs[x]? = some v → v.ownBlock = some q → v'.ownBlock ≠ some q := fun x v hne hx hq hq' => by
      rcases hv with h1 | ⟨g', h1, h2⟩
      · exact hne (h.apart x y v u q hx hu hq (h1 ▸ hq'))
      · have hxl := (List.getElem?_eq_some_iff.1 hx).1
        obtain ⟨v2, i1, i2⟩ := h.own x hxl
        rw [hx] at i1
        cases i1
        have := (own_lt i2 hq).1
        rw [h1] at hq'
        cases hq'
        omega
    by_cases ex : x = y
    · by_cases ez : z = y
      · rw [ex, ez]
      · subst ex
        have := new a ha
        subst this
        exact absurd hqa (key z b ez (old z b ez hb) hqb)
    · by_cases ez : z = y
      · subst ez
        have := new b hb
        subst this
        exact absurd hqb (key x a ex (old x a ex ha) hqa)
      · exact h.apart x z a b q (old x a ex ha) (old z b ez hb) hqa hqb
end Go.Proofs.Ytfpdecjlfnambaa
