/-
  The document's Back, as plain lists: what stays so from round to round, how much is left, and what it comes to. No conditions: lemmas.
-/
import Derived.Test.YtfpdecjlfnambaaGDocM
namespace Go.Proofs.Ytfpdecjlfnambaa
open Go Go.RowKit

theorem unmR_le (e : Bool) : ∀ A B : List (List Bool), A.length = B.length → (∀ k : Nat, k < A.length → (A[k]?.getD []).length = (B[k]?.getD []).length ∧ ∀ j : Nat, j < (A[k]?.getD []).length → (A[k]?.getD [])[j]?.getD false = (!e) → (B[k]?.getD [])[j]?.getD false = (!e)) → unmR e B ≤ unmR e A ∧ (A ≠ B → unmR e B < unmR e A)
  | [], [], _, _ => ⟨Nat.le_refl _, fun h => absurd rfl h⟩
  | a :: A, b :: B, hl, h => by
    have hl' : A.length = B.length := by simpa using hl
    obtain ⟨h1, h2⟩ := unmR_le e A B hl' fun k hk => by
      have := h (k + 1) (by simpa using hk)
      simpa only [List.getElem?_cons_succ] using this
    have h0 := h 0 (by simp)
    simp only [List.getElem?_cons_zero, Option.getD_some] at h0
    obtain ⟨h3, h4⟩ := unm_le e a b h0.1 h0.2
    have e1 : ∀ (z : List Bool) (l : List (List Bool)), unmR e (z :: l) = unm e z + unmR e l := fun z l => by simp [unmR]
    rw [e1, e1]
    refine ⟨by omega, fun hne => ?_⟩
    by_cases hab : a = b
    · have : A ≠ B := fun e' => hne (by rw [hab, e'])
      have := h2 this
      omega
    · have := h4 hab
      omega
def leftB (Z : List (List (List Bool))) : Nat := (Z.map (unmR false)).sum
theorem leftB_set (Z : List (List (List Bool))) (i : Nat) (r : List (List Bool)) (h : i < Z.length) : leftB (Z.set i r) + unmR false (rowZ Z i) = leftB Z + unmR false r := by
  have := sum_set (Z.map (unmR false)) i (unmR false r) (by simpa using h)
  unfold leftB
  rw [List.map_set]
  rw [List.getElem?_map, List.getElem?_eq_getElem h] at this
  rw [rowZ, List.getElem?_eq_getElem h]
  exact this
theorem setZ {Z : List (List (List Bool))} {i k : Nat} {r : List (List Bool)} (h : i < Z.length) : rowZ (Z.set i r) k = if i = k then r else rowZ Z k := by
  by_cases e : i = k
  · subst e
    rw [rowZ, List.getElem?_set_self h, if_pos rfl]
    rfl
  · rw [rowZ, List.getElem?_set_ne e, if_neg e]

section
variable {g : Gb} {n : Nat} {C : List Chg} {Z : List (List (List Bool))}
/-- A block's state ahead of step k, of what is behind its end. -/
abbrev bkF (g : Gb) (n : Nat) (C : List Chg) (i k : Nat) (r : List Bool) : List Bool := runB g n C i ((alongL true (insR g i)).take (insR g i + 1 - k)) r
def bkR (g : Gb) (n : Nat) (C : List Chg) (i : Nat) (r : List Bool) : List (List Bool) := (List.range (insR g i + 2)).map fun k => bkF g n C i k r
theorem bkR_len (i : Nat) (r : List Bool) : (bkR g n C i r).length = insR g i + 2 := by simp [bkR]
theorem bkR_at (i k : Nat) (r : List Bool) (h : k < insR g i + 2) : (bkR g n C i r)[k]?.getD [] = bkF g n C i k r := by
  rw [bkR, List.getElem?_map, List.getElem?_range h]
  rfl
theorem bkF_len (i k : Nat) (r : List Bool) : (bkF g n C i k r).length = r.length := by rw [bkF, runB_len]
theorem bkF_last (i : Nat) (r : List Bool) : bkF g n C i (insR g i + 1) r = r := by
  rw [bkF, Nat.sub_self, List.take_zero]
  rfl
theorem bkF_step (i k : Nat) (r : List Bool) (h : k < insR g i + 1) : bkF g n C i k r = stepF g n C i k (bkF g n C i (k + 1) r) := by
  rw [bkF, bkF, show insR g i + 1 - k = (insR g i + 1 - (k + 1)) + 1 by omega, runB_take _ _ _ _ (by simp [alongL]; omega), stepF]
  have e : ∀ hh, (alongL true (insR g i))[insR g i + 1 - (k + 1)]'hh = k := fun hh => by
    simp [alongL]
    omega
  rw [e]
theorem runB_mono (i : Nat) : ∀ (l : List Nat) (a b : List Bool), a.length = n → b.length = n → (∀ j, j < n → a[j]?.getD false = true → b[j]?.getD false = true) → ∀ j, j < n → (runB g n C i l a)[j]?.getD false = true → (runB g n C i l b)[j]?.getD false = true
  | [], _, _, _, _, h, j, hj, hv => h j hj hv
  | p :: l, a, b, ha, hb, h, j, hj, hv => by
    have e1 : ∀ x, runB g n C i (p :: l) x = runB g n C i l (stepF g n C i p x) := fun _ => rfl
    rw [e1] at hv ⊢
    exact runB_mono i l _ _ (by rw [stepF_len, ha]) (by rw [stepF_len, hb]) (fun q hq => stepF_mono g n C i p (by rw [ha]; exact hq) (by rw [hb]; exact hq) (h q hq)) j hj hv
abbrev lvK (g : Gb) (n : Nat) (C : List Chg) (j i : Nat) (b : Bool) : Bool := lvS (allF g n C true false) (allF g n C true true) true j i b
theorem bk_lv {i j : Nat} {r : List Bool} (hr : r.length = n) (hj : j < n) : ((bkF g n C i 0 r)[j]?.getD false == true) = lvK g n C j i (r[j]?.getD false == true) := by
  have e : bkF g n C i 0 r = runB g n C i (alongL true (insR g i)) r := by rw [bkF, List.take_of_length_le (by simp [alongL])]
  rw [e]
  unfold lvK lvS allF
  rcases runB_flag g n C i j hj (alongL true (insR g i)) with ⟨v, hv⟩ | hv
  · rw [hv _ hr, hv _ (by simp), hv _ (by simp)]
    simp
  · rw [hv _ hr, hv _ (by simp), hv _ (by simp)]
    simp only [List.getElem?_replicate, hj, if_true, Option.getD_some]
    cases hz : r[j]?.getD false <;> simp [hz]
/-- What is needed behind a block's end. -/
def NbP (g : Gb) (Z : List (List (List Bool))) (i j : Nat) : Prop := ∃ t ∈ tos g i, valZ Z t 0 j = true
def NbAt (g : Gb) (n : Nat) (Z : List (List (List Bool))) (i : Nat) (now : List Bool) : Prop := now.length = n ∧ ∀ j, j < n → (now[j]?.getD false = true ↔ NbP g Z i j)
/-- What stays so from round to round. -/
structure BxI (g : Gb) (n : Nat) (C : List Chg) (Z : List (List (List Bool))) : Prop where
  len : Z.length = g.length
  cnt : ∀ i, i < g.length → (rowZ Z i).length = insR g i + 2
  row : ∀ i k, i < g.length → k < insR g i + 2 → (stateZ Z i k).length = n
  sl : ∀ i j, i < g.length → j < n → valZ Z i (insR g i + 1) j = true → SpB g n C j i
  sk : ∀ i k j, i < g.length → k < insR g i + 2 → j < n → valZ Z i k j = true → (bkF g n C i k (stateZ Z i (insR g i + 1)))[j]?.getD false = true
  sn : ∀ i j, i < g.length → j < n → valZ Z i (insR g i + 1) j = true → NbP g Z i j
theorem BxI.nb (h : BxI g n C Z) {i j : Nat} (hi : i < g.length) (hj : j < n) (hn : NbP g Z i j) : SpB g n C j i := by
  obtain ⟨t, ht, hv⟩ := hn
  have htl := tos_lt ht
  have h1 := h.sk t 0 j htl (by omega) hj hv
  have h2 := bk_lv (g := g) (C := C) (i := t) (h.row t (insR g t + 1) htl (by omega)) hj
  rw [h1] at h2
  simp only [beq_self_eq_true] at h2
  cases hz : ((stateZ Z t (insR g t + 1))[j]?.getD false == true) with
  | false =>
    rw [hz] at h2
    exact .all htl h2.symm (prd_mem.2 ⟨hi, ht⟩)
  | true =>
    rw [hz] at h2
    exact .pass htl (h.sl t j htl hj (by simpa using hz)) h2.symm (prd_mem.2 ⟨hi, ht⟩)
/-- Looking at one block. -/
theorem BxI.up (h : BxI g n C Z) {i : Nat} (hi : i < g.length) {now : List Bool} (hn : NbAt g n Z i now) : ∀ k j, k < insR g i + 2 → j < n → valZ Z i k j = true → (bkF g n C i k now)[j]?.getD false = true := by
  intro k j hk hj hv
  refine runB_mono (g := g) (n := n) (C := C) i _ _ _ (h.row i (insR g i + 1) hi (by omega)) hn.1 (fun q hq hv2 => ?_) j hj (h.sk i k j hi hk hj hv)
  exact (hn.2 q hq).2 (h.sn i q hi hq hv2)
theorem BxI.step (h : BxI g n C Z) {i : Nat} (hi : i < g.length) {now : List Bool} (hn : NbAt g n Z i now) : BxI g n C (Z.set i (bkR g n C i now)) := by
  have hiZ : i < Z.length := by rw [h.len]; exact hi
  have hup := h.up hi hn
  have hst : ∀ q k, k < insR g q + 2 → stateZ (Z.set i (bkR g n C i now)) q k = if i = q then bkF g n C i k now else stateZ Z q k := fun q k hk => by
    rw [stateZ, setZ hiZ]
    by_cases e : i = q
    · subst e
      rw [if_pos rfl, if_pos rfl, bkR_at _ _ _ hk]
    · rw [if_neg e, if_neg e]
  have hgr : ∀ t j, t < g.length → j < n → valZ Z t 0 j = true → valZ (Z.set i (bkR g n C i now)) t 0 j = true := fun t j ht hj hv => by
    rw [valZ, hst t 0 (by omega)]
    split
    · rename_i e
      subst e
      exact hup 0 j (by omega) hj hv
    · exact hv
  have hnb : ∀ q j, j < n → NbP g Z q j → NbP g (Z.set i (bkR g n C i now)) q j := fun q j hj ⟨t, ht, hv⟩ => ⟨t, ht, hgr t j (tos_lt ht) hj hv⟩
  refine ⟨by rw [List.length_set]; exact h.len, fun q hq => ?_, fun q k hq hk => ?_, fun q j hq hj hv => ?_, fun q k j hq hk hj hv => ?_, fun q j hq hj hv => ?_⟩
  · rw [setZ hiZ]
    split
    · rename_i e
      subst e
      exact bkR_len _ _
    · exact h.cnt q hq
  · rw [hst q k hk]
    split
    · rw [bkF_len, hn.1]
    · exact h.row q k hq hk
  · rw [valZ, hst q _ (by omega)] at hv
    split at hv
    · rename_i e
      subst e
      rw [bkF_last] at hv
      exact h.nb hq hj ((hn.2 j hj).1 hv)
    · exact h.sl q j hq hj hv
  · rw [valZ, hst q k hk] at hv
    rw [hst q _ (by omega)]
    split at hv
    · rename_i e
      subst e
      rw [if_pos rfl, bkF_last]
      exact hv
    · rename_i e
      rw [if_neg e]
      exact h.sk q k j hq hk hj hv
  · refine hnb q j hj ?_
    rw [valZ, hst q _ (by omega)] at hv
    split at hv
    · rename_i e
      subst e
      rw [bkF_last] at hv
      exact (hn.2 j hj).1 hv
    · exact h.sn q j hq hj hv
theorem BxI.less (h : BxI g n C Z) {i : Nat} (hi : i < g.length) {now : List Bool} (hn : NbAt g n Z i now) :
    leftB (Z.set i (bkR g n C i now)) ≤ leftB Z ∧ (bkR g n C i now ≠ rowZ Z i → leftB (Z.set i (bkR g n C i now)) < leftB Z) := by
  have e1 := leftB_set Z i (bkR g n C i now) (by rw [h.len]; exact hi)
  have l1 := unmR_le false (rowZ Z i) (bkR g n C i now) (by rw [h.cnt i hi, bkR_len]) fun k hk => by
    rw [h.cnt i hi] at hk
    have h2 := h.row i k hi hk
    have h3 : ((rowZ Z i)[k]?.getD []).length = n := h2
    rw [bkR_at _ _ _ hk, bkF_len, hn.1, h3]
    exact ⟨rfl, fun j hj hv => h.up hi hn k j hk hj hv⟩
  refine ⟨by have := l1.1; omega, fun hne => ?_⟩
  have := l1.2 (fun e => hne e.symm)
  omega
/-- The first blocks are settled. -/
def BxS (g : Gb) (n : Nat) (C : List Chg) (Z : List (List (List Bool))) (k : Nat) : Prop := ∀ i, i < k → i < g.length → ∃ now, NbAt g n Z i now ∧ rowZ Z i = bkR g n C i now
theorem BxI.bks (h : BxI g n C Z) (hs : BxS g n C Z g.length) : BkS g n C Z := by
  have hst : ∀ i, i < g.length → ∃ now, NbAt g n Z i now ∧ ∀ k, k < insR g i + 2 → stateZ Z i k = bkF g n C i k now := fun i hi => by
    obtain ⟨now, h1, h2⟩ := hs i hi hi
    exact ⟨now, h1, fun k hk => by rw [stateZ, h2, bkR_at _ _ _ hk]⟩
  refine ⟨h.len, h.cnt, h.row, fun i k hi hk => ?_, fun i j hi hj => ⟨h.sl i j hi hj, fun hsp => ?_⟩⟩
  · obtain ⟨now, -, h2⟩ := hst i hi
    rw [h2 k (by omega), h2 (k + 1) (by omega), bkF_step _ _ _ hk]
  · have hlast : ∀ q, q < g.length → NbP g Z q j → valZ Z q (insR g q + 1) j = true := fun q hq hnb => by
      obtain ⟨now, h1, h2⟩ := hst q hq
      rw [valZ, h2 _ (by omega), bkF_last]
      exact (h1.2 j hj).2 hnb
    have hfirst : ∀ p, p < g.length → lvK g n C j p (valZ Z p (insR g p + 1) j == true) = true → valZ Z p 0 j = true := fun p hp hl => by
      obtain ⟨now, h1, h2⟩ := hst p hp
      have e1 : (stateZ Z p (insR g p + 1)) = now := by rw [h2 _ (by omega), bkF_last]
      rw [valZ, e1] at hl
      have h3 := bk_lv (g := g) (C := C) (i := p) h1.1 hj
      rw [show lvK g n C j p (now[j]?.getD false == true) = true from hl] at h3
      rw [valZ, h2 0 (by omega)]
      simpa using h3
    induction hsp with
    | base a b => exact b.elim
    | @all p t a b c =>
      have ht := (prd_mem.1 c)
      refine hlast t hi ⟨p, ht.2, hfirst p a ?_⟩
      cases hz : (valZ Z p (insR g p + 1) j == true)
      · exact b
      · exact all_mono_any g n C true true j p b
    | @pass p t a hsp b c ih =>
      have ht := (prd_mem.1 c)
      have h5 := ih a
      refine hlast t hi ⟨p, ht.2, hfirst p a ?_⟩
      rw [h5]
      simpa using b
theorem BkS.one {X Y : List (List (List Bool))} (hX : BkS g n C X) (hY : BkS g n C Y) : X = Y := by
  have hs : ∀ i m, i < g.length → m ≤ insR g i + 1 → stateZ X i (insR g i + 1 - m) = stateZ Y i (insR g i + 1 - m) := fun i m hi hm => by
    induction m with
    | zero =>
      refine ext_get (by rw [hX.row i _ hi (by omega), hY.row i _ hi (by omega)]) fun j hj => ?_
      rw [hX.row i _ hi (by omega)] at hj
      have h1 := hX.last i j hi hj
      have h2 := hY.last i j hi hj
      have h3 : valZ X i (insR g i + 1) j = true ↔ valZ Y i (insR g i + 1) j = true := h1.trans h2.symm
      show valZ X i (insR g i + 1) j = valZ Y i (insR g i + 1) j
      revert h3
      cases valZ X i (insR g i + 1) j <;> cases valZ Y i (insR g i + 1) j <;> simp
    | succ m ih =>
      have e := ih (by omega)
      rw [hX.step i _ hi (by omega), hY.step i _ hi (by omega), show insR g i + 1 - (m + 1) + 1 = insR g i + 1 - m by omega, e]
  have hrow : ∀ i, i < g.length → rowZ X i = rowZ Y i := fun i hi => by
    have l1 := hX.cnt i hi
    have l2 := hY.cnt i hi
    refine List.ext_getElem (by rw [l1, l2]) fun k h1 h2 => ?_
    have := hs i (insR g i + 1 - k) hi (by omega)
    rw [show insR g i + 1 - (insR g i + 1 - k) = k by omega, stateZ, stateZ, List.getElem?_eq_getElem h1, List.getElem?_eq_getElem h2] at this
    exact this
  refine List.ext_getElem (by rw [hX.len, hY.len]) fun i h1 h2 => ?_
  have := hrow i (by rw [← hX.len]; exact h1)
  rw [rowZ, rowZ, List.getElem?_eq_getElem h1, List.getElem?_eq_getElem h2] at this
  exact this
/-- How it begins. -/
def zroZ (g : Gb) (n : Nat) : List (List (List Bool)) := (List.range g.length).map fun i => List.replicate (insR g i + 2) (List.replicate n false)
theorem BxI.start (g : Gb) (n : Nat) (C : List Chg) : BxI g n C (zroZ g n) := by
  have hr : ∀ i, i < g.length → rowZ (zroZ g n) i = List.replicate (insR g i + 2) (List.replicate n false) := fun i hi => by
    rw [rowZ, zroZ, List.getElem?_map, List.getElem?_range hi]
    rfl
  have hs : ∀ i k, i < g.length → k < insR g i + 2 → stateZ (zroZ g n) i k = List.replicate n false := fun i k hi hk => by
    rw [stateZ, hr i hi, List.getElem?_replicate, if_pos hk]
    rfl
  have hv : ∀ i k j, i < g.length → k < insR g i + 2 → ¬ valZ (zroZ g n) i k j = true := fun i k j hi hk h => by
    rw [valZ, hs i k hi hk, List.getElem?_replicate] at h
    split at h <;> simp at h
  exact ⟨by simp [zroZ], fun i hi => by rw [hr i hi]; simp, fun i k hi hk => by rw [hs i k hi hk]; simp, fun i j hi hj h => (hv i _ j hi (by omega) h).elim, fun i k j hi hk hj h => (hv i k j hi hk h).elim, fun i j hi hj h => (hv i _ j hi (by omega) h).elim⟩
end
end Go.Proofs.Ytfpdecjlfnambaa
