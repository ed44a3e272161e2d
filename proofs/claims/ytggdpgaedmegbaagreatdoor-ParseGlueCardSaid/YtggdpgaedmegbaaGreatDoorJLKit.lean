/-
  Small lemmas: boxes, rows, and how a row of tokens lies in the heap. No conditions.
-/
import Derived.Test.YtggdpgaedmegbaaGreatDoorJLScan
namespace Go.Proofs.YtggdpgaedmegbaaGreatDoor
open Go.RowKit

theorem info_parts {t : TypeId} {z : Value} {size bytes : Nat} (h : (Tryz.prog.info? t).map (fun i => (i.zero, i.size, i.bytes)) = some (some z, size, bytes)) : ∃ i, Tryz.prog.info? t = some i ∧ i.zero = some z ∧ i.size = size ∧ i.bytes = bytes := by
  cases hi : Tryz.prog.info? t with
  | none => rw [hi] at h; cases h
  | some i =>
    rw [hi] at h
    simp only [Option.map_some, Option.some.injEq, Prod.mk.injEq] at h
    exact ⟨i, rfl, h.1, h.2.1, h.2.2⟩
theorem alloc_below (w : World) (o : Obj) : Below w.heap.size w (w.alloc o) := (Below.refl _ _).alloc (Nat.le_refl _) o
theorem alloc_cell (w : World) (c : Array Value) (t : TypeId) (j : Nat) (v : Value) (hv : c[j]? = some v) : (w.alloc (.cells c t)).cell? ⟨w.heap.size, j, none⟩ = some v := by
  simp only [World.cell?]
  rw [heap_alloc_new]
  simpa using hv
theorem box_below {w w1 : World} {o : Obj} (hb : Below (w.alloc o).heap.size (w.alloc o) w1) : Below w.heap.size w w1 :=
  ((Below.refl _ _).alloc (Nat.le_refl _) o).trans (hb.mono (by simp))
theorem keepB {w w' : World} {k : Nat} {o : Obj} (h : w.heap[k]? = some o) (hb : Below w.heap.size w w') : w'.heap[k]? = some o := (hb.block _ (Array.getElem?_eq_some_iff.1 h).1).trans h
theorem new_cells (w : World) (l : List Value) (t : TypeId) (g : Nat) (hg : g = w.heap.size) : ∀ j u, l[j]? = some u → (w.alloc (.cells l.toArray t)).cell? ((⟨g, 0, none⟩ : Addr).add j) = some u := by
  intro j u hu
  subst hg
  have e : ((⟨w.heap.size, 0, none⟩ : Addr).add j) = ⟨w.heap.size, j, none⟩ := by unfold Addr.add; split <;> simp_all
  rw [e]
  exact alloc_cell w l.toArray t j u (by simpa using hu)
theorem row_shape {w : World} {base e size n : Nat} {v : Value} {xs : List Value} (h : w.ownsRow base e size v n xs) : ∃ og g cap, v = .slice og n cap ∧ (0 < n → og = some ⟨g, 0, none⟩) := by
  rcases h.2 with ⟨rfl, rfl⟩ | ⟨g, cap, cur, rfl, _⟩
  · exact ⟨none, 0, 0, rfl, fun h => absurd h (Nat.lt_irrefl _)⟩
  · exact ⟨_, g, cap, rfl, fun _ => rfl⟩
theorem row_below {base e size n : Nat} {w w' : World} {v : Value} {xs : List Value} (hb : Below w.heap.size w w') (h : w.ownsRow base e size v n xs) : w'.ownsRow base e size v n xs := by
  refine ⟨h.1, ?_⟩
  rcases h.2 with hn | ⟨g, cap, cur, rfl, hbb, hgg, rest⟩
  · exact .inl hn
  · exact .inr ⟨g, cap, cur, rfl, hbb, (hb.block _ (Array.getElem?_eq_some_iff.1 hgg).1).trans hgg, rest⟩
theorem own_cells {w : World} {base e size g cap n : Nat} {xs : List Value} (h : w.ownsRow base e size (.slice (some ⟨g, 0, none⟩) n cap) n xs) : g < w.heap.size ∧ base ≤ g ∧ (∀ i u, xs[i]? = some u → w.cell? ⟨g, i, none⟩ = some u) ∧ ∀ i, w.frozen? ⟨g, i, none⟩ = false := by
  rcases h.2 with ⟨hv, _⟩ | ⟨g', cap', cur, hv, hbb, hgg, h1, h2, h3, h4⟩
  · cases hv
  · cases hv
    refine ⟨(Array.getElem?_eq_some_iff.1 hgg).1, hbb, fun i u hu => ?_, fun i => by simp [World.frozen?, hgg]⟩
    have hi : i < n * size := by have := (List.getElem?_eq_some_iff.1 hu).1; rw [h.1] at this; exact this
    rw [← h4, List.getElem?_take_of_lt hi] at hu
    simp only [World.cell?, hgg]
    simpa using hu
theorem cells4 {w : World} {k : Nat} {v0 v1 v2 v3 : Value} {t : TypeId} (h : w.heap[k]? = some (.cells #[v0, v1, v2, v3] t)) :
    w.cell? ⟨k, 0, none⟩ = some v0 ∧ w.cell? ⟨k, 1, none⟩ = some v1 ∧ w.cell? ⟨k, 2, none⟩ = some v2 ∧ w.cell? ⟨k, 3, none⟩ = some v3 ∧ (∀ j, w.frozen? ⟨k, j, none⟩ = false) ∧ k < w.heap.size := by
  have hl := (Array.getElem?_eq_some_iff.1 h).1
  exact ⟨by simp [World.cell?, h], by simp [World.cell?, h], by simp [World.cell?, h], by simp [World.cell?, h], fun j => by simp [World.frozen?, h], hl⟩
theorem heap_setCell_same (w : World) (b j : Nat) (c : Array Value) (t : TypeId) (v : Value) (h : w.heap[b]? = some (.cells c t)) : (w.setCell ⟨b, j, none⟩ v).heap[b]? = some (.cells (c.setIfInBounds j v) t) := by
  simp [World.setCell, Array.getElem?_modify, h]
theorem set4 {w : World} {k : Nat} {v0 v1 v2 v3 u0 u1 u2 u3 : Value} {t : TypeId} (h : w.heap[k]? = some (.cells #[v0, v1, v2, v3] t)) :
    ((((w.setCell ⟨k, 0, none⟩ u0).setCell ⟨k, 1, none⟩ u1).setCell ⟨k, 2, none⟩ u2).setCell ⟨k, 3, none⟩ u3).heap[k]? = some (.cells #[u0, u1, u2, u3] t) := by
  have h1 := heap_setCell_same w k 0 _ t u0 h
  have h2 := heap_setCell_same _ k 1 _ t u1 h1
  have h3 := heap_setCell_same _ k 2 _ t u2 h2
  have h4 := heap_setCell_same _ k 3 _ t u3 h3
  simpa using h4
theorem set4_below {B k : Nat} {w0 w : World} {u0 u1 u2 u3 : Value} (h : Below B w0 w) (hk : B ≤ k) : Below B w0 ((((w.setCell ⟨k, 0, none⟩ u0).setCell ⟨k, 1, none⟩ u1).setCell ⟨k, 2, none⟩ u2).setCell ⟨k, 3, none⟩ u3) :=
  (((h.setCell hk _).setCell hk _).setCell hk _).setCell hk _
theorem below_undrew {w w' : World} (h : Below w.drew.heap.size w.drew w') : Below w.heap.size w w' := ⟨h.os, h.tape, h.output, h.size, h.block⟩
theorem ToksAt.of_own {w : World} {base g cap n : Nat} {ts : List Tok} (h : w.ownsRow base 40 4 (.slice (some ⟨g, 0, none⟩) n cap) n (toksC ts)) : ToksAt w g ts := by
  obtain ⟨h1, _, h2, _⟩ := own_cells h
  refine ⟨h1, fun i t ht => ⟨h2 _ _ ?_, h2 _ _ ?_, h2 _ _ ?_, h2 _ _ ?_⟩⟩
  · exact toksC_get ts i 0 t ht (by decide)
  · exact toksC_get ts i 1 t ht (by decide)
  · exact toksC_get ts i 2 t ht (by decide)
  · exact toksC_get ts i 3 t ht (by decide)
/-- What the package variables hold. nG: how many there are -/
abbrev nG : Nat := 9
structure Vars (w : World) : Prop where
  res : ∃ t fr, w.heap[5]? = some (.cells (resL.map fun l => Value.string (strB l)).toArray t fr)
  signs : ∀ k l, longL[k]? = some l → w.cell? ⟨0, k, none⟩ = some (.string (strB l))
  range : ∃ te pe, w.cell? ⟨2, 0, none⟩ = some (.iface te pe)
  psigns : ∃ t fr, w.heap[8]? = some (.cells #[.string (strB [43]), .string (strB [45]), .string (strB [42]), .string (strB [60]), .string (strB [61, 61])] t fr)
  size : nG ≤ w.heap.size
theorem Vars.below {w w' : World} {B : Nat} (h : Vars w) (hb : Below B w w') (hB : nG ≤ B) : Vars w' := by
  unfold nG at hB
  exact ⟨by obtain ⟨t, fr, he⟩ := h.res; exact ⟨t, fr, (hb.block _ (by omega)).trans he⟩, fun k l hk => (hb.cell (show (⟨0, k, none⟩ : Addr).block < B from by simp; omega)).trans (h.signs k l hk),
    by obtain ⟨te, pe, he⟩ := h.range; exact ⟨te, pe, (hb.cell (show (⟨2, 0, none⟩ : Addr).block < B from by simp; omega)).trans he⟩,
    by obtain ⟨t, fr, he⟩ := h.psigns; exact ⟨t, fr, (hb.block _ (by omega)).trans he⟩, Nat.le_trans h.size hb.size⟩
theorem Vars.b {w w' : World} (h : Vars w) (hb : Below w.heap.size w w') : Vars w' := h.below hb h.size
end Go.Proofs.YtggdpgaedmegbaaGreatDoor
