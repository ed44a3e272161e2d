/-
  How the document's own marking lies in the heap. No conditions: definitions and lemmas.
-/
import Derived.Test.YtobhfmliaecbjaaDoorRefF
import Derived.Test.YtobhfmliaecbjaaDoorMark
namespace Go.Proofs.YtobhfmliaecbjaaDoor
open Go.RowKit

theorem row_put2 {w : World} {base e size g cap n : Nat} {xs : List Value} (h : w.ownsRow base e size (.slice (some ⟨g, 0, none⟩) n cap) n xs) (i : Nat) (v : Value) : (w.setCell ⟨g, i, none⟩ v).ownsRow base e size (.slice (some ⟨g, 0, none⟩) n cap) n (xs.set i v) := by
  refine ⟨by rw [List.length_set]; exact h.1, ?_⟩
  rcases h.2 with ⟨hv, _⟩ | ⟨g', cap', cur, hv, hbb, hgg, h1, h2, h3, h4⟩
  · cases hv
  · cases hv
    refine .inr ⟨g, cap, cur.setIfInBounds i v, rfl, hbb, heap_setCell_same w g i _ e v hgg, h1, h2, by simpa using h3, ?_⟩
    rw [Array.toList_setIfInBounds, List.take_set, h4]
theorem row_cells {w : World} {base e size g cap n : Nat} {xs : List Value} (h : w.ownsRow base e size (.slice (some ⟨g, 0, none⟩) n cap) n xs) : g < w.heap.size ∧ base ≤ g ∧ (∀ (i : Nat) (u : Value), xs[i]? = some u → w.cell? ⟨g, i, none⟩ = some u) ∧ (∀ i, w.frozen? ⟨g, i, none⟩ = false) ∧ ∃ cur, w.heap[g]? = some (.cells cur e) := by
  rcases h.2 with ⟨hv, _⟩ | ⟨g', cap', cur, hv, hbb, hgg, h1, h2, h3, h4⟩
  · cases hv
  · cases hv
    refine ⟨(Array.getElem?_eq_some_iff.1 hgg).1, hbb, fun i u hu => ?_, fun i => by simp [World.frozen?, hgg], cur, hgg⟩
    rw [← h4, List.getElem?_take] at hu
    split at hu
    · simp only [World.cell?, hgg]
      simpa using hu
    · cases hu
theorem row_keep {w w' : World} {base e size g cap n : Nat} {xs : List Value} (h : w.ownsRow base e size (.slice (some ⟨g, 0, none⟩) n cap) n xs) (hk : w'.heap[g]? = w.heap[g]?) : w'.ownsRow base e size (.slice (some ⟨g, 0, none⟩) n cap) n xs := by
  refine ⟨h.1, ?_⟩
  rcases h.2 with ⟨hv, _⟩ | ⟨g', cap', cur, hv, hbb, hgg, rest⟩
  · cases hv
  · cases hv
    exact .inr ⟨g, cap, cur, rfl, hbb, hk.trans hgg, rest⟩

def mtv (o : Option (List Bool)) : Value := .bool o.isSome

/-- the marks: slices in block ga, what is met in block gm -/
structure BAt (B ga gm : Nat) (w : World) (vs : List Value) (st : Mb) : Prop where
  rowA : w.heap[ga]? = some (.cells vs.toArray 78)
  len : vs.length = st.length
  off : ∀ i : Nat, st[i]? = some none → vs[i]? = some (.slice none 0 0)
  on : ∀ (i : Nat) (l : List Bool), st[i]? = some (some l) → ∃ g cap, vs[i]? = some (.slice (some ⟨g, 0, none⟩) 16 cap) ∧ w.ownsRow B 4 1 (.slice (some ⟨g, 0, none⟩) 16 cap) 16 (l.map Value.bool) ∧ g ≠ gm ∧ ∀ (j : Nat) (v : Value), j ≠ i → vs[j]? = some v → v.ownBlock ≠ some g
  met : w.heap[gm]? = some (.cells (st.map mtv).toArray 4)
  ba : B ≤ ga
  bm : B ≤ gm

/-- the row that is carried on -/
structure OutAt (B gm : Nat) (w : World) (vs : List Value) (go cap : Nat) (l : List Bool) : Prop where
  own : w.ownsRow B 4 1 (.slice (some ⟨go, 0, none⟩) 16 cap) 16 (l.map Value.bool)
  ne : go ≠ gm
  apart : ∀ (j : Nat) (v : Value), vs[j]? = some v → v.ownBlock ≠ some go

/-- blocks of these types stay -/
def Stay (w w' : World) : Prop := ∀ (b : Nat) (c : Array Value) (t : TypeId) (f : Nat × Nat), (t = 4 ∨ t = 78) → w.heap[b]? = some (.cells c t f) → w'.heap[b]? = some (.cells c t f)
theorem Stay.of_below {w w' : World} (h : Below w.heap.size w w') : Stay w w' := fun b _ _ _ _ hb => (h.block b (Array.getElem?_eq_some_iff.1 hb).1).trans hb
theorem Stay.trans {a b c : World} (h : Stay a b) (k : Stay b c) : Stay a c := fun g x t f ht hg => k g x t f ht (h g x t f ht hg)
theorem Stay.grown {w w' : World} {base e size n : Nat} {v : Value} {xs : List Value} (ho : w.ownsRow base e size v n xs) (he : e ≠ 4 ∧ e ≠ 78) (hg : w.grownBy w' v.ownBlock) : Stay w w' := fun _ _ t _ ht hb =>
  grown_other ho hg hb (by rcases ht with rfl | rfl; exact fun e => he.1 e.symm; exact fun e => he.2 e.symm)

section
variable {B ga gm : Nat} {w w' : World} {vs : List Value} {st : Mb}
theorem BAt.ne (h : BAt B ga gm w vs st) : ga ≠ gm := bne h.rowA h.met (by decide)
theorem BAt.stay (h : BAt B ga gm w vs st) (hk : Stay w w') : BAt B ga gm w' vs st := by
  refine ⟨hk _ _ _ _ (.inr rfl) h.rowA, h.len, h.off, fun i l hl => ?_, hk _ _ _ _ (.inl rfl) h.met, h.ba, h.bm⟩
  obtain ⟨g, cap, h1, h2, h3⟩ := h.on i l hl
  obtain ⟨_, _, _, _, cur, hc⟩ := row_cells h2
  exact ⟨g, cap, h1, row_keep h2 (by rw [hk _ _ _ _ (.inl rfl) hc, hc]), h3⟩
theorem OutAt.stay {go cap : Nat} {l : List Bool} (h : OutAt B gm w vs go cap l) (hk : Stay w w') : OutAt B gm w' vs go cap l := by
  obtain ⟨_, _, _, _, cur, hc⟩ := row_cells h.own
  exact ⟨row_keep h.own (by rw [hk _ _ _ _ (.inl rfl) hc, hc]), h.ne, h.apart⟩

/-- what a place's mark reads -/
theorem BAt.read (h : BAt B ga gm w vs st) {i : Nat} {o : Option (List Bool)} (hi : st[i]? = some o) : w.cell? ⟨gm, i, none⟩ = some (.bool o.isSome) := by simp [World.cell?, h.met, hi, mtv]
theorem BAt.row (h : BAt B ga gm w vs st) {i : Nat} {l : List Bool} (hi : st[i]? = some (some l)) : ∃ g cap, w.cell? ⟨ga, i, none⟩ = some (.slice (some ⟨g, 0, none⟩) 16 cap) ∧ vs[i]? = some (.slice (some ⟨g, 0, none⟩) 16 cap) ∧ w.ownsRow B 4 1 (.slice (some ⟨g, 0, none⟩) 16 cap) 16 (l.map Value.bool) ∧ g ≠ gm := by
  obtain ⟨g, cap, h1, h2, h3, _⟩ := h.on i l hi
  exact ⟨g, cap, by simp [World.cell?, h.rowA, h1], h1, h2, h3⟩

/-- one bit of a place's row is cleared -/
theorem BAt.clear (h : BAt B ga gm w vs st) {i : Nat} {l : List Bool} (hi : st[i]? = some (some l)) {g cap : Nat} (hv : vs[i]? = some (.slice (some ⟨g, 0, none⟩) 16 cap)) (r : Nat) :
    BAt B ga gm (w.setCell ⟨g, r, none⟩ (.bool false)) vs (st.set i (some (l.set r false))) ∧ Below B w (w.setCell ⟨g, r, none⟩ (.bool false)) := by
  obtain ⟨g', cap', h1, h2, h3, h4⟩ := h.on i l hi
  rw [hv] at h1
  cases h1
  obtain ⟨hlt, hB, _, _, cur, hc⟩ := row_cells h2
  have nA : ga ≠ g := bne h.rowA hc (by decide)
  have keep : ∀ b, b ≠ g → (w.setCell ⟨g, r, none⟩ (.bool false)).heap[b]? = w.heap[b]? := fun b hb => Below.heap_setCell w ⟨g, r, none⟩ _ b hb
  have hil := (List.getElem?_eq_some_iff.1 hi).1
  refine ⟨⟨(keep ga nA).trans h.rowA, by rw [List.length_set]; exact h.len, fun j hj => ?_, fun j l' hj => ?_, ?_, h.ba, h.bm⟩, ?_⟩
  · rw [List.getElem?_set] at hj
    split at hj
    · first | cases hj | (split at hj <;> cases hj)
    · exact h.off j hj
  · rw [List.getElem?_set] at hj
    split at hj
    · rename_i e
      subst e
      first | (cases hj) | (rw [if_pos hil] at hj; cases hj)
      refine ⟨g, cap, hv, ?_, h3, h4⟩
      have := row_put2 h2 r (.bool false)
      rw [show (l.map Value.bool).set r (.bool false) = (l.set r false).map Value.bool by rw [List.map_set]] at this
      exact this
    · rename_i e
      obtain ⟨g2, cap2, k1, k2, k3, k4⟩ := h.on j l' hj
      have hg2 : g2 ≠ g := fun e2 => by
        subst e2
        exact h4 j _ (fun e3 => e e3.symm) k1 rfl
      exact ⟨g2, cap2, k1, row_keep k2 (keep g2 hg2), k3, k4⟩
  · rw [keep gm (fun e => h3 e.symm), h.met]
    congr 3
    rw [List.map_set]
    apply List.ext_getElem?
    intro j
    rw [List.getElem?_set]
    split
    · rename_i e
      subst e
      rw [List.getElem?_map, hi, List.length_map, if_pos hil]
      rfl
    · rfl
  · exact ⟨rfl, rfl, rfl, by simp [World.setCell], fun b hb => keep b (by omega)⟩
theorem OutAt.clear {go cap g : Nat} {l : List Bool} (h : OutAt B gm w vs go cap l) {i cap' : Nat} (hv : vs[i]? = some (.slice (some ⟨g, 0, none⟩) 16 cap')) (r : Nat) (v : Value) : OutAt B gm (w.setCell ⟨g, r, none⟩ v) vs go cap l := by
  have hne : go ≠ g := fun e => h.apart i _ hv (by rw [e]; rfl)
  exact ⟨row_keep h.own (Below.heap_setCell w ⟨g, r, none⟩ _ _ hne), h.ne, h.apart⟩

/-- a place is met -/
theorem BAt.mark (h : BAt B ga gm w vs st) {n : Nat} (hn : st[n]? = some none) {l : List Bool} {w2 : World} {g cap : Nat} (hb : Below w.heap.size (w.setCell ⟨gm, n, none⟩ (.bool true)) w2) (hg : w.heap.size ≤ g) (hown : w2.ownsRow B 4 1 (.slice (some ⟨g, 0, none⟩) 16 cap) 16 (l.map Value.bool)) :
    BAt B ga gm (w2.setCell ⟨ga, n, none⟩ (.slice (some ⟨g, 0, none⟩) 16 cap)) (vs.set n (.slice (some ⟨g, 0, none⟩) 16 cap)) (st.set n (some l)) ∧ Below B w (w2.setCell ⟨ga, n, none⟩ (.slice (some ⟨g, 0, none⟩) 16 cap)) := by
  have hlm : gm < w.heap.size := (Array.getElem?_eq_some_iff.1 h.met).1
  have hla : ga < w.heap.size := (Array.getElem?_eq_some_iff.1 h.rowA).1
  have hnl := (List.getElem?_eq_some_iff.1 hn).1
  have hba := h.ba
  have hbm := h.bm
  have keep : ∀ b, b < w.heap.size → b ≠ gm → b ≠ ga → (w2.setCell ⟨ga, n, none⟩ (.slice (some ⟨g, 0, none⟩) 16 cap)).heap[b]? = w.heap[b]? := fun b hb1 h1 h2 => by
    rw [Below.heap_setCell w2 ⟨ga, n, none⟩ _ b h2, hb.block b hb1, Below.heap_setCell w ⟨gm, n, none⟩ _ b h1]
  have hA2 : w2.heap[ga]? = some (.cells vs.toArray 78) := by rw [hb.block ga hla, Below.heap_setCell w ⟨gm, n, none⟩ _ ga h.ne]; exact h.rowA
  have hM2 : w2.heap[gm]? = some (.cells ((st.map mtv).toArray.setIfInBounds n (.bool true)) 4) := by rw [hb.block gm hlm]; exact heap_setCell_same w gm n _ 4 (.bool true) h.met
  have hne := h.ne
  refine ⟨⟨?_, by simp [h.len], fun j hj => ?_, fun j l' hj => ?_, ?_, h.ba, h.bm⟩, ?_⟩
  · have := heap_setCell_same w2 ga n _ 78 (.slice (some ⟨g, 0, none⟩) 16 cap) hA2
    rw [this]
    simp
  · rw [List.getElem?_set] at hj
    split at hj
    · first | cases hj | (split at hj <;> cases hj)
    · rename_i e
      rw [List.getElem?_set, if_neg e]
      exact h.off j hj
  · rw [List.getElem?_set] at hj
    split at hj
    · rename_i e
      subst e
      first | (cases hj) | (rw [if_pos hnl] at hj; cases hj)
      refine ⟨g, cap, by rw [List.getElem?_set, if_pos rfl, if_pos (by rw [h.len]; exact hnl)], row_keep hown (Below.heap_setCell w2 ⟨ga, n, none⟩ _ g (by show g ≠ ga; omega)), by omega, fun j v hj hv => ?_⟩
      rw [List.getElem?_set, if_neg (fun e => hj e.symm)] at hv
      intro e
      have hjl : j < st.length := by rw [← h.len]; exact (List.getElem?_eq_some_iff.1 hv).1
      obtain ⟨o, ho⟩ : ∃ o, st[j]? = some o := ⟨_, List.getElem?_eq_getElem hjl⟩
      cases o with
      | none => rw [h.off j ho] at hv; cases hv; simp [Value.ownBlock] at e
      | some lj =>
        obtain ⟨g2, cap2, k1, k2, _⟩ := h.on j lj ho
        rw [k1] at hv
        cases hv
        have h5 : g2 = g := Option.some.inj e
        have := (row_cells k2).1
        omega
    · rename_i e
      obtain ⟨g2, cap2, k1, k2, k3, k4⟩ := h.on j l' hj
      obtain ⟨q1, _, _, _, cur, hc⟩ := row_cells k2
      have hga : g2 ≠ ga := bne hc h.rowA (by decide)
      refine ⟨g2, cap2, by rw [List.getElem?_set, if_neg e]; exact k1, row_keep k2 (keep g2 q1 k3 hga), k3, fun i v hi hv => ?_⟩
      rw [List.getElem?_set] at hv
      split at hv
      · split at hv
        · cases hv
          intro e2
          have h5 : g = g2 := Option.some.inj e2
          omega
        · cases hv
      · exact k4 i v hi hv
  · rw [Below.heap_setCell w2 ⟨ga, n, none⟩ _ gm (fun e => hne e.symm), hM2]
    congr 2
    simp [List.map_set, mtv]
  · refine ⟨hb.os, hb.tape, hb.output, ?_, fun b hb1 => keep b (by omega) (by omega) (by omega)⟩
    have := hb.size
    simp [World.setCell] at this ⊢
    exact this
theorem OutAt.mark {go cap : Nat} {l : List Bool} (h : OutAt B gm w vs go cap l) {n g cap' : Nat} {w2 : World} (hb : Below w.heap.size (w.setCell ⟨gm, n, none⟩ (.bool true)) w2) (hg : w.heap.size ≤ g) (hA : w.heap[ga]? = some (.cells vs.toArray 78)) :
    OutAt B gm (w2.setCell ⟨ga, n, none⟩ (.slice (some ⟨g, 0, none⟩) 16 cap')) (vs.set n (.slice (some ⟨g, 0, none⟩) 16 cap')) go cap l := by
  obtain ⟨q1, _, _, _, cur, hc⟩ := row_cells h.own
  have hga : go ≠ ga := bne hc hA (by decide)
  refine ⟨row_keep h.own ?_, h.ne, fun j v hv => ?_⟩
  · rw [Below.heap_setCell w2 ⟨ga, n, none⟩ _ go hga, hb.block go q1, Below.heap_setCell w ⟨gm, n, none⟩ _ go h.ne]
  · rw [List.getElem?_set] at hv
    split at hv
    · split at hv
      · cases hv
        intro e
        have h5 : g = go := Option.some.inj e
        omega
      · cases hv
    · exact h.apart j v hv
end
end Go.Proofs.YtobhfmliaecbjaaDoor
