/-
  Graph: what Flow makes of the first block's first state: clear, and a copy of what starts. No conditions: laws alone.
-/
import Derived.Test.YtfpdecjlfnambaaGMul
import Derived.Lib.SliceRun
namespace Go.Proofs.Ytfpdecjlfnambaa
open Go Go.RowKit Go.Shelf

theorem setCells_kep (r : Nat) : ∀ (l : List Value) (o : Nat) (w : World), Kep (fun k => k = r) w (w.setCells r o l)
  | [], _, w => Kep.refl _ w
  | v :: l, o, w => (Kep.setCell (M := fun k => k = r) (p := ⟨r, o, none⟩) (Kep.refl _ w) (.inr rfl) v).trans (setCells_kep r l (o + 1) (w.setCell ⟨r, o, none⟩ v))
theorem setCells_bx (r t : Nat) : ∀ (vs : List Value) (o : Nat) (w : World) (l : List Value), Bx w r t l → o + vs.length ≤ l.length → Bx (w.setCells r o vs) r t (l.take o ++ vs ++ l.drop (o + vs.length))
  | [], o, w, l, h, _ => by
    show Bx w r t _
    simpa using h
  | v :: vs, o, w, l, h, hl => by
    simp only [List.length_cons] at hl
    have h1 := setCells_bx r t vs (o + 1) _ _ (h.set o v) (by rw [List.length_set]; omega)
    have e : (l.set o v).take (o + 1) ++ vs ++ (l.set o v).drop (o + 1 + vs.length) = l.take o ++ (v :: vs) ++ l.drop (o + (v :: vs).length) := by
      rw [List.take_add_one, List.getElem?_set, if_pos rfl, if_pos (by omega), List.take_set_of_le (Nat.le_refl _), List.drop_set_of_lt (by omega)]
      simp [Nat.add_assoc, Nat.add_comm 1]
    rw [e] at h1
    exact h1
theorem clear_row (r n c : Nat) (L : List Bool) (w : World) (hr : Bx w r 4 (bC L)) (hL : L.length = n) (ty : TypeId) :
    ∃ w', (Builtin.clear_ #[26] ty #[.slice (some ⟨r, 0, none⟩) n c]).run Try.prog w = .ok (.tuple #[]) w' ∧ Kep (fun k => k = r) w w' ∧ Bx w' r 4 (bC (List.replicate n false)) := by
  have hv : ∀ w : World, (zeroValue 4).run Try.prog w = .ok (.bool false) w := fun w => by
    simp [zeroValue, go_sem]
    try kernel_rfl
  rcases Nat.eq_zero_or_pos n with h0 | h0
  · subst h0
    obtain rfl : L = [] := List.eq_nil_of_length_eq_zero hL
    refine ⟨w, ?_, Kep.refl _ _, by simpa using hr⟩
    simp [Builtin.clear_, run_underlying Try.underlying26, hv]
  · have e := Lib.run_clear_slice (P := Try.prog) w 26 4 ty (.bool false) Try.underlying26 hv rfl rfl r 0 n c h0 (fun j hj => by rw [Nat.zero_add, hr.cell, List.getElem?_eq_getElem (by simpa [hL] using hj)]; rfl) (fun j _ => by rw [Nat.zero_add]; exact hr.frozen j)
    refine ⟨_, e, setCells_kep r _ _ _, ?_⟩
    have h := setCells_bx r 4 (List.replicate n (.bool false)) 0 w _ hr (by simp [hL])
    have e2 : (bC L).take 0 ++ List.replicate n (Value.bool false) ++ (bC L).drop (0 + (List.replicate n (Value.bool false)).length) = bC (List.replicate n false) := by
      rw [List.drop_eq_nil_of_le (by simp [hL])]
      simp [bC]
    rw [e2] at h
    exact h
/-- A row of bools among the arguments. -/
def BSrc (n0 : Nat) (w : World) (oa : Option Addr) (st : List Bool) : Prop := 0 < st.length → ∃ bl off, oa = some ⟨bl, off, none⟩ ∧ bl < n0 ∧ ∀ j, j < st.length → w.cell? ⟨bl, off + j, none⟩ = some (.bool (st[j]?.getD false))
theorem BSrc.below {n0 n : Nat} {w w' : World} {oa : Option Addr} {st : List Bool} (h : BSrc n0 w oa st) (hB : Below n w w') (hn : n0 ≤ n) : BSrc n0 w' oa st := fun hl => by
  obtain ⟨bl, off, h1, h2, h3⟩ := h hl
  exact ⟨bl, off, h1, h2, fun j hj => (hB.cell (p := ⟨bl, off + j, none⟩) (by show bl < n; omega)).trans (h3 j hj)⟩
/-- The first state of the first block. -/
def iniF (start : List Bool) (n : Nat) : List Bool := start.take n ++ List.replicate (n - start.length) false
theorem iniF_len (start : List Bool) (n : Nat) : (iniF start n).length = n := by
  simp [iniF]
  omega
theorem copy_start (n0 r n c : Nat) (oa : Option Addr) (sc ns : Nat) (start : List Bool) (w : World) (hr : Bx w r 4 (bC (List.replicate n false))) (hs : BSrc n0 w oa start) (hns : ns = start.length) :
    ∃ w', (Builtin.copy_ #[26, 26] 3 #[.slice (some ⟨r, 0, none⟩) n c, .slice oa ns sc]).run Try.prog w = .ok (.int .i64 ((Nat.min ns n : Nat) : Int)) w' ∧ Kep (fun k => k = r) w w' ∧ Bx w' r 4 (bC (iniF start n)) := by
  subst hns
  obtain ⟨m, hm⟩ : ∃ m, m = Nat.min start.length n := ⟨_, rfl⟩
  rw [← hm]
  have hm1 : m ≤ n := by rw [hm]; exact Nat.min_le_right _ _
  have hm2 : m ≤ start.length := by rw [hm]; exact Nat.min_le_left _ _
  have hini : iniF start n = start.take m ++ (List.replicate n false).drop m := by
    rw [iniF, List.drop_replicate]
    rcases Nat.le_total start.length n with h | h
    · have : m = start.length := by rw [hm]; exact Nat.min_eq_left h
      rw [this, List.take_of_length_le h, List.take_length]
    · have : m = n := by rw [hm]; exact Nat.min_eq_right h
      rw [this]
      simp [Nat.sub_eq_zero_of_le h]
  rcases Nat.eq_zero_or_pos m with h0 | h0
  · refine ⟨w, ?_, Kep.refl _ _, ?_⟩
    · rw [run_copy_none w _ _ _ 4 _ _ _ _ _ _ Try.underlying26 (by kernel_rfl) (by rw [← hm, h0]), h0]
      rfl
    · rw [hini, h0]
      simpa using hr
  · obtain ⟨bl, off, rfl, -, hc⟩ := hs (by omega)
    have hlen : (bC (start.take m)).length = m := by simp; omega
    have e := run_copy_row (P := Try.prog) w 26 26 3 4 r 0 n c ⟨bl, off, none⟩ start.length sc (bC (List.replicate n false)).toArray 4 (bC (start.take m)) Try.underlying26 (by kernel_rfl) hr (by rw [hlen, hm])
      (fun j v hj => by
        have hjc : j < m := by
          have := (List.getElem?_eq_some_iff.1 hj).1
          omega
        rw [bC_get (by simp; omega), List.getElem?_take_of_lt hjc] at hj
        cases hj
        rw [show (⟨bl, off, none⟩ : Addr).add j = ⟨bl, off + j, none⟩ by by_cases h0 : j = 0 <;> simp [Addr.add, h0]]
        exact hc j (by omega))
      (by simp; omega)
      (fun v hv => by
        obtain ⟨b, -, rfl⟩ := List.mem_map.1 hv
        rfl)
    refine ⟨w.setRow r ((bC (List.replicate n false)).toArray.toList.take 0 ++ bC (start.take m) ++ (bC (List.replicate n false)).toArray.toList.drop (0 + m)).toArray, by rw [e, hlen]; rfl, ⟨rfl, rfl, rfl, by simp, fun k hk hm => setRow_other w r k _ hm⟩, ?_⟩
    rw [Bx, setRow_heap w r _ _ _ _ hr, hini]
    simp [bC, List.map_take, List.map_drop]
    try omega
end Go.Proofs.Ytfpdecjlfnambaa
