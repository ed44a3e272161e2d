/-
  GraphTurned: the row of changes that the law makes, and what is plain. No conditions: definitions and lemmas.
-/
import Derived.Test.YtfpdecjlfnambaaGAfter
import Derived.Test.YtfpdecjlfnambaaGHas
namespace Go.Proofs.Ytfpdecjlfnambaa
open Go Go.RowKit

theorem own_mono {w : World} {base base' e sz n : Nat} {v : Value} {xs : List Value} (h : w.ownsRow base e sz v n xs) (hb : base' ≤ base) : w.ownsRow base' e sz v n xs :=
  ⟨h.1, h.2.imp id fun ⟨g, cap, cur, h1, h2, h3⟩ => ⟨g, cap, cur, h1, Nat.le_trans hb h2, h3⟩⟩
/-- A row of changes that is made: its headers in a block of its own, what each makes in rows of their own, what each ends in the arguments' rows. -/
def TRow (n0 base : Nat) (w : World) (v : Value) (D : List Chg) (xs : List Value) : Prop :=
  w.ownsRow base 66 4 v D.length xs ∧ ∀ i, i < D.length → xs[i * 4]? = some (.int .i64 (D[i]?.getD default).b) ∧ xs[i * 4 + 1]? = some (.int .i64 (D[i]?.getD default).s) ∧
    (∃ u, xs[i * 4 + 2]? = some u ∧ ORow w base u (D[i]?.getD default).gen) ∧ (∃ u, xs[i * 4 + 3]? = some u ∧ IRow n0 w u (D[i]?.getD default).kill)
theorem ORow.kep {M : Nat → Prop} {w w' : World} {base : Nat} {v : Value} {l : List Int} (h : ORow w base v l) (hk : Kep M w w') (hm : ∀ g, v.ownBlock = some g → ¬ M g) : ORow w' base v l := own_kep h hk hm
theorem TRow.below {n0 base : Nat} {w w' : World} {v : Value} {D : List Chg} {xs : List Value} (h : TRow n0 base w v D xs) (hb : Below w.heap.size w w') (hn : n0 ≤ w.heap.size) : TRow n0 base w' v D xs := by
  obtain ⟨h1, h2⟩ := h
  have hk := Kep.of_below (M := fun _ => False) hb
  refine ⟨own_kep h1 hk (fun _ _ h => h), fun i hi => ?_⟩
  obtain ⟨a1, a2, ⟨u, a3, a4⟩, u', a5, a6⟩ := h2 i hi
  exact ⟨a1, a2, ⟨u, a3, own_kep a4 hk (fun _ _ h => h)⟩, u', a5, a6.below hb hn⟩
theorem TRow.nil (n0 base : Nat) (w : World) : TRow n0 base w (.slice none 0 0) [] [] := ⟨World.ownsRow_nil _ _ _ _, fun i hi => absurd hi (Nat.not_lt_zero _)⟩
theorem TRow.snoc {n0 base : Nat} {w w' : World} {v v' : Value} {D : List Chg} {xs : List Value} {c : Chg} {ug uk : Value} (h : TRow n0 base w v D xs) (hn : n0 ≤ base) (hnw : n0 ≤ w.heap.size) (hk : Kep (fun b => v.ownBlock = some b) w w')
    (hown : w'.ownsRow base 66 4 v' (D.length + 1) (xs ++ [.int .i64 c.b, .int .i64 c.s, ug, uk])) (hg : ORow w base ug c.gen) (hki : IRow n0 w uk c.kill) :
    TRow n0 base w' v' (D ++ [c]) (xs ++ [.int .i64 c.b, .int .i64 c.s, ug, uk]) := by
  obtain ⟨h1, h2⟩ := h
  have hxl : xs.length = D.length * 4 := h1.1
  have hfar : ∀ (u : Value) (l : List Int), ORow w base u l → ORow w' base u l := fun u l hu => own_kep hu hk (fun g hg hv => by
    rcases h1.2 with ⟨rfl, -⟩ | ⟨g', cap, cur, rfl, -, hg', -⟩
    · cases hv
    · simp [Value.ownBlock] at hv
      subst hv
      exact own_ne hu hg' (fun cs fr e => by cases e) hg)
  have hirow : ∀ (u : Value) (l : List Int), IRow n0 w u l → IRow n0 w' u l := fun u l hu => hu.below (hk.to_below (n := n0) hnw fun k hk1 hv => by
    have := (own_lt h1 hv).2
    omega) (Nat.le_refl _)
  refine ⟨by rw [List.length_append]; exact hown, fun i hi => ?_⟩
  rw [List.length_append, List.length_singleton] at hi
  by_cases e : i < D.length
  · obtain ⟨a1, a2, ⟨u, a3, a4⟩, u', a5, a6⟩ := h2 i e
    rw [List.getElem?_append_left e, List.getElem?_append_left (by omega), List.getElem?_append_left (by omega), List.getElem?_append_left (by omega), List.getElem?_append_left (by omega)]
    exact ⟨a1, a2, ⟨u, a3, hfar _ _ a4⟩, u', a5, hirow _ _ a6⟩
  · obtain rfl : i = D.length := by omega
    rw [List.getElem?_append_right (Nat.le_refl _), Nat.sub_self, List.getElem?_append_right (by omega), List.getElem?_append_right (by omega), List.getElem?_append_right (by omega), List.getElem?_append_right (by omega), hxl, Nat.sub_self, show D.length * 4 + 1 - D.length * 4 = 1 by omega, show D.length * 4 + 2 - D.length * 4 = 2 by omega, show D.length * 4 + 3 - D.length * 4 = 3 by omega]
    exact ⟨rfl, rfl, ⟨ug, rfl, hfar _ _ hg⟩, uk, rfl, hirow _ _ hki⟩
theorem ORow.irow {w : World} {base n : Nat} {v : Value} {l : List Int} (h : ORow w base v l) (hn : w.heap.size ≤ n) : IRow n w v l := by
  obtain ⟨ou, cu, rfl, h2⟩ := own_parts h
  refine ⟨ou, cu, rfl, fun hl => ?_⟩
  obtain ⟨gu, ex, rfl, hb⟩ := h2 hl
  refine ⟨gu, 0, rfl, Nat.lt_of_lt_of_le hb.lt hn, fun j hj => ?_⟩
  rw [Nat.zero_add, hb.cell, List.getElem?_append_left (by simpa using hj), List.getElem?_map, List.getElem?_eq_getElem hj]
  rfl
/-- Such a row is one of changes. -/
theorem TRow.crow {n0 base : Nat} {w : World} {v : Value} {D : List Chg} {xs : List Value} (h : TRow n0 base w v D xs) (hn : n0 ≤ w.heap.size) : ∃ oa cap, v = .slice oa D.length cap ∧ CRow w.heap.size w oa D := by
  obtain ⟨h1, h2⟩ := h
  obtain ⟨hxl, h1'⟩ := h1
  rcases h1' with ⟨rfl, h0⟩ | ⟨g, cap, cur, rfl, -, hg, -, -, hcs, hcur⟩
  · exact ⟨none, 0, by rw [h0], fun hl => by omega⟩
  · refine ⟨_, cap, rfl, fun _ => ⟨g, 0, rfl, (Array.getElem?_eq_some_iff.1 hg).1, fun i hi => ?_⟩⟩
    have hb : Bx w g 66 cur.toList := by rw [Bx]; simpa using hg
    have hc : ∀ k, k < D.length * 4 → w.cell? ⟨g, k, none⟩ = xs[k]? := fun k hk => by
      rw [hb.cell, ← hcur, List.getElem?_take_of_lt hk]
    obtain ⟨a1, a2, ⟨u, a3, a4⟩, u', a5, a6⟩ := h2 i hi
    rw [Nat.zero_add, hc _ (by omega), hc _ (by omega), hc _ (by omega), hc _ (by omega)]
    exact ⟨a1, a2, ⟨u, a3, a4.irow (Nat.le_refl _)⟩, u', a5, a6.mono hn⟩
theorem once_snoc {D : List Chg} {c : Chg} (h : OnceC D) (hn : ∀ j, j < D.length → ¬ ((D[j]?.getD default).b = c.b ∧ (D[j]?.getD default).s = c.s)) : OnceC (D ++ [c]) := by
  have key : ∀ d ∈ D, d.b = c.b → d.s = c.s → False := fun d hd h1 h2 => by
    obtain ⟨j, hj, e⟩ := List.mem_iff_getElem.1 hd
    refine hn j hj ?_
    rw [List.getElem?_eq_getElem hj, e]
    exact ⟨h1, h2⟩
  intro a ha b hb h1 h2
  rw [List.mem_append, List.mem_singleton] at ha hb
  rcases ha with ha | rfl <;> rcases hb with hb | rfl
  · exact h a ha b hb h1 h2
  · exact (key a ha h1 h2).elim
  · exact (key b hb h1.symm h2.symm).elim
  · rfl
theorem take_snoc {C : List Chg} {i : Nat} (h : i < C.length) : C.take (i + 1) = C.take i ++ [C[i]?.getD default] := by
  rw [List.take_add_one, List.getElem?_eq_getElem h]
  rfl
/-- What is left of a Kill. -/
def keepF (gen l : List Int) : List Int := l.filter fun x => decide (x ∉ gen)
theorem keepF_take {gen l : List Int} {q : Nat} (h : q < l.length) : keepF gen (l.take (q + 1)) = keepF gen (l.take q) ++ (if l[q]?.getD 0 ∈ gen then [] else [l[q]?.getD 0]) := by
  rw [List.take_add_one, List.getElem?_eq_getElem h, keepF, List.filter_append]
  congr 1
  by_cases hp : l[q] ∈ gen
  · simp [hp]
  · simp [hp]
theorem keepF_len (gen l : List Int) : (keepF gen l).length ≤ l.length := List.length_filter_le _ _
theorem turn_small {C : List Chg} (h : CSmall C) : CSmall (C.map turnC) := by
  refine ⟨by rw [List.length_map]; exact h.1, fun c hc => ?_⟩
  obtain ⟨d, hd, rfl⟩ := List.mem_map.1 hc
  have := h.2 d hd
  exact ⟨Nat.le_trans (List.length_filter_le _ _) this.2, this.1⟩
theorem infoChg : (Try.prog.info? 66).map (fun i => (i.zero, i.size, i.bytes)) = some (some (.agg #[.int .i64 0, .int .i64 0, .slice none 0 0, .slice none 0 0]), 4, 64) := by kernel_rfl
end Go.Proofs.Ytfpdecjlfnambaa
