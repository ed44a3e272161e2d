/-
  Arguments that are slices, opened to cells. No conditions: lemmas.
-/
import Derived.Test.YtbcockaleegicaaClose
import Derived.Deep.Slices
import Derived.Deep.Fields
import Derived.Deep.Strs
namespace Go.Proofs.Ytbcockaleegicaa
open Go.RowKit Go.ChangeShapes Go.WideShapes Go.ChangeAt

theorem addr_eq {w : World} {a : Addr} {v : Value} (h : w.cell? a = some v) : a = ⟨a.block, a.off, none⟩ := by
  cases a with
  | mk b o s =>
    cases s with
    | none => rfl
    | some s =>
      simp only [World.cell?] at h
      split at h
      · simp at h
      · cases h

theorem add_plain (b o k : Nat) : (⟨b, o, none⟩ : Addr).add k = ⟨b, o + k, none⟩ := by unfold Addr.add; split <;> simp_all

theorem list_choose {α : Type} (P : Nat → α → Prop) : ∀ n : Nat, (∀ i, i < n → ∃ x, P i x) → ∃ l : List α, l.length = n ∧ ∀ i x, l[i]? = some x → P i x
  | 0, _ => ⟨[], rfl, by simp⟩
  | n + 1, h => by
    obtain ⟨l, hl, hp⟩ := list_choose P n fun i hi => h i (by omega)
    obtain ⟨x, hx⟩ := h n (by omega)
    refine ⟨l ++ [x], by simp [hl], fun i y hy => ?_⟩
    by_cases hi : i < n
    · rw [List.getElem?_append_left (by omega)] at hy
      exact hp i y hy
    · rw [List.getElem?_append_right (by omega), hl] at hy
      by_cases h2 : i = n
      · subst h2
        simp at hy
        subst hy
        exact hx
      · rw [List.getElem?_eq_none (by simp; omega)] at hy
        cases hy

theorem open_rows {H : Type} {enc : TypeId × Value → H} {W : World} {t e : TypeId} {sz b0 : Nat} {v : Value} {d : DataW H} {p : List MemPlace} (ht : Try.prog.underlying t = some (.slice e)) (hC : Try.prog.cellsOf e = sz) (hsz : 0 < sz)
    (hv : Value.okWide Try.prog W .any b0 t v) (h : DataW.Trod enc Try.prog W 0 (fun _ => true) true t v d p) :
    ∃ (oa : Option Addr) (len cap b off : Nat), v = .slice oa len cap ∧ len ≤ cap ∧ cap ≤ maxLen ∧ (0 < len → oa = some ⟨b, off, none⟩ ∧ b < W.heap.size) ∧
      ∀ i, i < len → ∃ cs x n, cs.length = sz ∧ (∀ j, j < sz → W.cell? ⟨b, off + i * sz + j, none⟩ = cs[j]?) ∧ DataW.trod enc Try.prog W 0 (fun _ => true) true n e cs = some x := by
  obtain ⟨oa, len, cap, rfl⟩ := okWide_slice ht hv
  obtain ⟨fuel, hf⟩ := h
  rcases Deep.open_slice ht hf with ⟨h0, _⟩ | ⟨a, len', cap', m, n, D, Pl, hcs, hb, hl, hm, hmm, hx, hi⟩
  · have h1 : Value.slice oa len cap = .slice none 0 0 := by simpa [Value.cells] using h0
    cases h1
    exact ⟨none, 0, 0, 0, 0, rfl, Nat.le_refl _, Nat.zero_le _, fun h => absurd h (Nat.lt_irrefl _), fun i hi => absurd hi (Nat.not_lt_zero _)⟩
  · have h1 : Value.slice oa len cap = .slice (some a) len' cap' := by simpa [Value.cells] using hcs
    cases h1
    simp only [if_true] at hmm
    subst hmm
    have cell : ∀ i, i < len → ∃ cs x n, cs.length = sz ∧ (∀ j, j < sz → W.cell? ((a.add (i * sz)).add j) = cs[j]?) ∧ DataW.trod enc Try.prog W 0 (fun _ => true) true n e cs = some x := fun i hil => by
      obtain ⟨cs', hc, htr⟩ := hi i (by omega)
      rw [hC] at hc
      obtain ⟨_, hcl, hat⟩ := World.cells?_some hc
      exact ⟨cs', _, n, hcl, hat, htr⟩
    by_cases h0 : 0 < len
    · obtain ⟨cs, x, n', hcl, hat, _⟩ := cell 0 h0
      have h00 := hat 0 hsz
      rw [Nat.zero_mul] at h00
      have ha : (a.add 0).add 0 = a := by unfold Addr.add; simp
      rw [ha, List.getElem?_eq_getElem (by omega)] at h00
      have he := addr_eq h00
      have hlt := World.block_lt_of_cell? W a h00
      refine ⟨some a, len, _, a.block, a.off, rfl, hl, hm, fun _ => ⟨by rw [← he], hlt⟩, fun i hil => ?_⟩
      obtain ⟨cs, x, n', hcl, hat, htr⟩ := cell i hil
      refine ⟨cs, x, n', hcl, fun j hj => ?_, htr⟩
      have := hat j hj
      rw [he, add_plain, add_plain] at this
      exact this
    · exact ⟨some a, len, _, 0, 0, rfl, hl, hm, fun h => absurd h h0, fun i hil => by omega⟩

theorem word_cells {H : Type} {enc : TypeId × Value → H} {W : World} {n : Nat} {cs : List Value} {x : DataW H × List MemPlace} (hl : cs.length = 3) (h : DataW.trod enc Try.prog W 0 (fun _ => true) true n 30 cs = some x) :
    ∃ (b : Bool) (a k : Int), cs = [.bool b, .int .i64 a, .int .i64 k] ∧ (Lit.int .i64 a).wf = true ∧ (Lit.int .i64 k).wf = true := by
  obtain ⟨y0, y1, y2, m, _, _, h0, h1, h2⟩ := Deep.trod_struct3 Try.underlying30 h
  match cs, hl with
  | [c0, c1, c2], _ =>
    have k4 : Try.prog.cellsOf 4 = 1 := by kernel_rfl
    have k3 : Try.prog.cellsOf 3 = 1 := by kernel_rfl
    simp [k4] at h0
    simp [k3] at h1 h2
    obtain ⟨b, e0, _⟩ := DataW.trod_bool Try.underlying4 h0
    obtain ⟨a, e1, _, wa⟩ := DataW.trod_int Try.underlying3 h1
    obtain ⟨k, e2, _, wk⟩ := DataW.trod_int Try.underlying3 h2
    simp at e0 e1 e2
    subst e0 e1 e2
    exact ⟨b, a, k, rfl, wa, wk⟩

theorem bool_cells {H : Type} {enc : TypeId × Value → H} {W : World} {n : Nat} {cs : List Value} {x : DataW H × List MemPlace} (h : DataW.trod enc Try.prog W 0 (fun _ => true) true n 4 cs = some x) : ∃ b : Bool, cs = [.bool b] := by
  obtain ⟨b, e, _⟩ := DataW.trod_bool Try.underlying4 h
  exact ⟨b, e⟩
theorem int_cells {H : Type} {enc : TypeId × Value → H} {W : World} {n : Nat} {cs : List Value} {x : DataW H × List MemPlace} (h : DataW.trod enc Try.prog W 0 (fun _ => true) true n 3 cs = some x) : ∃ z : Int, cs = [.int .i64 z] ∧ (Lit.int .i64 z).wf = true := by
  obtain ⟨z, e, _, wz⟩ := DataW.trod_int Try.underlying3 h
  exact ⟨z, e, wz⟩
end Go.Proofs.Ytbcockaleegicaa
