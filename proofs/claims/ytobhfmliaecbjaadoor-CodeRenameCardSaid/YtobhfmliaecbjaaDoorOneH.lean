/-
  CodeOne answers true for every input. No conditions.
-/
import Derived.Test.YtobhfmliaecbjaaDoorWorks
import Derived.Test.YtobhfmliaecbjaaDoorOver
import Derived.Test.YtobhfmliaecbjaaDoorBuilt
import Derived.Test.YtobhfmliaecbjaaDoorMet
import Derived.Test.YtobhfmliaecbjaaDoorCards
import Derived.Test.YtobhfmliaecbjaaDoorTie
import Derived.SevenTiedAt
namespace Go.Proofs.YtobhfmliaecbjaaDoor
open Go.RowKit Go.ChangeShapes Go.WideShapes Go.ChangeAt

theorem info25 : (Tryd.prog.info? 25).map (fun i => (i.zero, i.size, i.bytes)) = some (some (.agg #[.int .i64 0, .int .i64 0, .int .i64 0, .int .i64 0, .slice none 0 0]), 5, 56) := by kernel_rfl
theorem info39 : (Tryd.prog.info? 39).map (fun i => (i.zero, i.size, i.bytes)) = some (some (.slice none 0 0), 1, 24) := by kernel_rfl

theorem QAt.push {B bq : Nat} {w5 w6 : World} {cv vq vq' v' : Value} {fvs : List Value} {fs : List (List In)} {f' : List In} {o : Obj} (hbox : w5.heap[bq]? = some (.cells #[vq, cv] 35)) (hlen : fvs.length = fs.length)
    (hF : ∀ (i : Nat) (fv : Value) (f : List In), fvs[i]? = some fv → fs[i]? = some f → FunO B w5 fv f) (hnew : FunO B w5 v' f') (hbq : B ≤ bq) (ha : (w5.alloc o).ownsRow B 39 1 vq fvs.length fvs)
    (h6 : w6.ownsRow B 39 1 vq' (fvs.length + 1) (fvs ++ [v'])) (hg : (w5.alloc o).grownBy w6 vq.ownBlock) :
    QAt B bq (w6.setCell ⟨bq, 0, none⟩ vq') cv (fs ++ [f']) ∧ KQ B w5 (w6.setCell ⟨bq, 0, none⟩ vq') := by
  have hb6 : w6.heap[bq]? = some (.cells #[vq, cv] 35) := grown_other ha hg ((heap_alloc_old _ _ (Array.getElem?_eq_some_iff.1 hbox).1).trans hbox) (by decide)
  have hK : KQ B w5 (w6.setCell ⟨bq, 0, none⟩ vq') := ((KQ.of_below (alloc_below w5 o)).trans (KQ.grown ha (Nat.le_refl _) (by decide) hg)).trans (KQ.setCell (a := ⟨bq, 0, none⟩) hbq hb6 (by decide) _)
  refine ⟨⟨vq', fvs ++ [v'], heap_setCell_same w6 bq 0 _ 35 vq' hb6, ?_, by simp [hlen], fun i fv f hfv hf => ?_⟩, hK⟩
  · have := row_setCell h6 (a := ⟨bq, 0, none⟩) hb6 (by decide) vq'
    rw [List.length_append, List.length_singleton]
    exact this
  · by_cases hi : i < fvs.length
    · rw [List.getElem?_append_left hi] at hfv
      rw [List.getElem?_append_left (by omega)] at hf
      exact (hF i fv f hfv hf).kq hK
    · rw [List.getElem?_append_right (by omega)] at hfv
      rw [List.getElem?_append_right (by omega)] at hf
      have e1 : i - fvs.length = 0 := by have := (List.getElem?_eq_some_iff.1 hfv).1; simp at this; omega
      have e2 : i - fs.length = 0 := by omega
      rw [e1] at hfv
      rw [e2] at hf
      simp at hfv hf
      subst hfv hf
      exact hnew.kq hK
theorem row_put {w : World} {base e size g cap n : Nat} {xs : List Value} (h : w.ownsRow base e size (.slice (some ⟨g, 0, none⟩) n cap) n xs) (i : Nat) (v : Value) : (w.setCell ⟨g, i, none⟩ v).ownsRow base e size (.slice (some ⟨g, 0, none⟩) n cap) n (xs.set i v) := by
  refine ⟨by rw [List.length_set]; exact h.1, ?_⟩
  rcases h.2 with ⟨hv, _⟩ | ⟨g', cap', cur, hv, hbb, hgg, h1, h2, h3, h4⟩
  · cases hv
  · cases hv
    refine .inr ⟨g, cap, cur.setIfInBounds i v, rfl, hbb, heap_setCell_same w g i _ e v hgg, h1, h2, by simpa using h3, ?_⟩
    rw [← h4]
    simp [List.take_set]
theorem own_cells {w : World} {base e size g cap n : Nat} {xs : List Value} (h : w.ownsRow base e size (.slice (some ⟨g, 0, none⟩) n cap) n xs) : g < w.heap.size ∧ base ≤ g ∧ (∀ i u, xs[i]? = some u → w.cell? ⟨g, i, none⟩ = some u) ∧ ∀ i, w.frozen? ⟨g, i, none⟩ = false := by
  rcases h.2 with ⟨hv, _⟩ | ⟨g', cap', cur, hv, hbb, hgg, h1, h2, h3, h4⟩
  · cases hv
  · cases hv
    refine ⟨(Array.getElem?_eq_some_iff.1 hgg).1, hbb, fun i u hu => ?_, fun i => by simp [World.frozen?, hgg]⟩
    have hi : i < n * size := by have := (List.getElem?_eq_some_iff.1 hu).1; rw [h.1] at this; exact this
    rw [← h4, List.getElem?_take_of_lt hi] at hu
    simp only [World.cell?, hgg]
    simpa using hu

def Bad (n : Nat) (x : In) : Prop := ∀ nc ks k, instrB nc ks k n x = false
theorem bad_op (n : Nat) (a b c : Int) (l : List Int) : Bad n ⟨99, a, b, c, l⟩ := fun nc ks k => by simp [instrB, known]
theorem bad_lab (n : Nat) (op a b c : Int) : Bad n ⟨op, a, b, c, [(n : Int)]⟩ := fun nc ks k => by simp [instrB, below]
theorem f0_small : ∀ k : Fin 30, (tab.getD k.val ⟨0, 0, 0, 0⟩).f0 = 0 ∨ (tab.getD k.val ⟨0, 0, 0, 0⟩).f0 = 1 ∨ (tab.getD k.val ⟨0, 0, 0, 0⟩).f0 = 2 := by decide
theorem bad_reg (n : Nat) (op b c : Int) (l : List Int) : Bad n ⟨op, 16, b, c, l⟩ := fun nc ks k => by
  cases hk : known op with
  | false => simp [instrB, hk]
  | true =>
    have h01 : 0 ≤ op ∧ op < 30 := by simpa [known] using hk
    obtain ⟨m, rfl⟩ : ∃ m : Nat, op = m := ⟨op.toNat, by omega⟩
    have e : shp (m : Int) = tab.getD m ⟨0, 0, 0, 0⟩ := by rw [shp, if_pos (by omega)]; rfl
    have hf : fitsB nc ks 16 (shp (m : Int)).f0 = false := by
      rw [e]
      rcases f0_small ⟨m, by omega⟩ with h | h | h <;> simp only at h <;> rw [h] <;> simp [fitsB, below]
    simp [instrB, fldB, hf]
theorem not_ok {gs : List (List In)} {cs : List Cr} {F A : Nat} {g : List In} {x : In} (hg : gs[F]? = some g) (hx : g[A]? = some x) (hb : Bad g.length x) : ¬ PgOk ⟨gs, cs⟩ := fun h => by
  have h1 := (h.fn F g hg).ins x (List.mem_of_getElem? hx)
  rw [hb] at h1
  cases h1

/-- what the loop has built -/
structure OneQ (B : Nat) (cv : Value) (F A j : Nat) (w3 wr : World) : Prop where
  q : ∃ gs, QAt B B wr cv gs ∧ gs.length = j ∧ (∀ g ∈ gs, ∀ x ∈ g, x.l.length ≤ 60) ∧ (F < j → ∃ g x, gs[F]? = some g ∧ g[A]? = some x ∧ Bad g.length x)
  below : Below B w3 wr

theorem OneQ.next {B : Nat} {cv vq vq' v' : Value} {F A j : Nat} {w3 w5 w6 wr : World} {fvs : List Value} {gs : List (List In)} {f' : List In} {o : Obj} (hb5 : Below B w3 w5) (hB5 : B ≤ w5.heap.size)
    (hbox : w5.heap[B]? = some (.cells #[vq, cv] 35)) (hlen : fvs.length = gs.length) (hF : ∀ (i : Nat) (fv : Value) (f : List In), fvs[i]? = some fv → gs[i]? = some f → FunO B w5 fv f) (hnew : FunO B w5 v' f')
    (ha : (w5.alloc o).ownsRow B 39 1 vq fvs.length fvs) (h6 : w6.ownsRow B 39 1 vq' (fvs.length + 1) (fvs ++ [v'])) (hg : (w5.alloc o).grownBy w6 vq.ownBlock) (hj : gs.length = j)
    (hl : ∀ g ∈ gs, ∀ x ∈ g, x.l.length ≤ 60) (hl' : ∀ x ∈ f', x.l.length ≤ 60) (hbad : F < j → ∃ g x, gs[F]? = some g ∧ g[A]? = some x ∧ Bad g.length x) (hbad' : F = j → ∃ x, f'[A]? = some x ∧ Bad f'.length x)
    (hwr : wr = w6.setCell ⟨B, 0, none⟩ vq') : OneQ B cv F A (j + 1) w3 wr := by
  subst hwr
  obtain ⟨hQ, hK⟩ := QAt.push hbox hlen hF hnew (Nat.le_refl _) ha h6 hg
  refine ⟨⟨gs ++ [f'], hQ, by simp [hj], fun g hgm x hx => ?_, fun hFj => ?_⟩, hb5.trans (hK.below hB5)⟩
  · rcases List.mem_append.1 hgm with h | h
    · exact hl g h x hx
    · simp at h; subst h; exact hl' x hx
  · by_cases e : F = j
    · obtain ⟨x, h1, h2⟩ := hbad' e
      exact ⟨f', x, by rw [List.getElem?_append_right (by omega), show F - gs.length = 0 from by omega]; rfl, h1, h2⟩
    · obtain ⟨g, x, h1, h2, h3⟩ := hbad (by omega)
      exact ⟨g, x, by rw [List.getElem?_append_left (by omega)]; exact h1, h2, h3⟩

end Go.Proofs.YtobhfmliaecbjaaDoor
