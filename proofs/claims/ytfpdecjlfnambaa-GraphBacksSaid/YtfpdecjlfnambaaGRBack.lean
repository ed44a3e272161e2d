/-
  The document's Back. Conditions: the body and the changes lie in the heap, and are small.
-/
import Derived.Test.YtfpdecjlfnambaaGFixB
import Derived.Test.YtfpdecjlfnambaaGTo
import Derived.Test.YtfpdecjlfnambaaGPreds
namespace Go.Proofs.Ytfpdecjlfnambaa
open Go Go.RowKit

theorem BRow.setB {w : World} {v : Value} {st : List Bool} (h : BRow w v st) {b i : Nat} {us : List Value} {u : Value} (hb : Bx w b 26 us) : BRow (w.setCell ⟨b, i, none⟩ u) v st := by
  obtain ⟨r, cap, ex, h1, h2⟩ := h
  exact ⟨r, cap, ex, h1, h2.far (fun e => bx_ne h2 hb (by decide) e.symm) _⟩
theorem set_sameB {A : List (List Bool)} {i : Nat} {r : List Bool} (hi : i < A.length) (h : r = rowA A i) : A.set i r = A := by
  refine List.ext_getElem (by simp) fun k h1 h2 => ?_
  rw [List.getElem_set]
  split
  · rename_i e
    subst e
    rw [h, rowA, List.getElem?_eq_getElem hi]
    rfl
  · rfl
/-- A block's row while it is made: k states, all as at first. -/
def BkN (wi : World) (bZ i n : Nat) (us : List Value) (k : Nat) (w : World) : Prop :=
  ∃ u vs, Kep (fun b => b = bZ) wi w ∧ Bx w bZ 44 (us.set i u) ∧ w.ownsRow wi.heap.size 26 1 u k vs ∧ (0 < k → u ≠ .slice none 0 0) ∧ (∀ j, j < k → ∃ v, vs[j]? = some v ∧ BRow w v (List.replicate n false))
theorem BkN.push {wi w w9 : World} {bZ i k n : Nat} {us vs : List Value} {u u' v' : Value} {o : Obj}
    (hk : Kep (fun b => b = bZ) wi w) (hZ : Bx w bZ 44 (us.set i u)) (ho : w.ownsRow wi.heap.size 26 1 u k vs) (hr : ∀ j, j < k → ∃ v, vs[j]? = some v ∧ BRow w v (List.replicate n false)) (hv : BRow w v' (List.replicate n false))
    (hown : w9.ownsRow wi.heap.size 26 1 u' (k + 1) (vs ++ [v'])) (hg : (w.alloc o).grownBy w9 u.ownBlock) (hne : u' ≠ .slice none 0 0) : BkN wi bZ i n us (k + 1) (w9.setCell ⟨bZ, i, none⟩ u') := by
  have hk9 : Kep (fun b => u.ownBlock = some b) w w9 := ((Kep.refl _ w).alloc o).grown hg (fun q hq => .inr hq)
  have hZ9 : Bx w9 bZ 44 (us.set i u) := hZ.kep hk9 (fun h => own_ne ho hZ (fun cs fr e => by cases e) h)
  have hvl : vs.length = k := by simpa using ho.1
  have hks : Kep (fun b => b = bZ) w9 (w9.setCell ⟨bZ, i, none⟩ u') := Kep.setCell (M := fun b => b = bZ) (p := ⟨bZ, i, none⟩) (Kep.refl _ w9) (.inr rfl) _
  have hbr : ∀ (v : Value) (r : List Bool), BRow w v r → BRow (w9.setCell ⟨bZ, i, none⟩ u') v r := fun v r h => by
    obtain ⟨q, cap, ex, h1, h2⟩ := h
    have h3 : Bx w9 q 4 (bC r ++ ex) := h2.kep hk9 (fun h => own_ne ho h2 (fun cs fr e => by cases e) h)
    exact ⟨q, cap, ex, h1, h3.kep hks (fun e => bx_ne h3 hZ9 (by decide) e)⟩
  refine ⟨u', vs ++ [v'], (hk.sub hk9 (fun q hq => .inl (own_lt ho hq).2)).trans hks, ?_, own_kep hown hks (fun q hq e => by
    subst e
    exact own_ne hown hZ9 (fun cs fr e => by cases e) hq), fun _ => hne, fun j hj => ?_⟩
  · have := hZ9.set i u'
    rw [List.set_set] at this
    exact this
  · by_cases e : j < k
    · obtain ⟨v, a1, a2⟩ := hr j e
      exact ⟨v, by rw [List.getElem?_append_left (by omega)]; exact a1, hbr _ _ a2⟩
    · obtain rfl : j = k := by omega
      exact ⟨v', by rw [List.getElem?_append_right (by omega), hvl, Nat.sub_self]; rfl, hbr _ _ hv⟩
/-- A row of rows of rows of flags; k rows are there, each in a block of its own. -/
def ZB (w : World) (base bZ L k : Nat) (Z : List (List (List Bool))) : Prop :=
  ∃ (us : List Value) (G : Nat → Nat), Bx w bZ 44 us ∧ us.length = L ∧ (∀ i j, i < k → j < k → G i = G j → i = j) ∧
    (∀ i, i < k → base ≤ G i ∧ (∃ c, us[i]? = some (.slice (some ⟨G i, 0, none⟩) (rowZ Z i).length c)) ∧ ∃ vs ex, Bx w (G i) 26 (vs ++ ex) ∧ vs.length = (rowZ Z i).length ∧ ∀ q, q < (rowZ Z i).length → ∃ v, vs[q]? = some v ∧ BRow w v (stateZ Z i q)) ∧
    ∀ i, k ≤ i → i < L → us[i]? = some (.slice none 0 0)
theorem ZB.below {w w' : World} {base bZ L k : Nat} {Z : List (List (List Bool))} (h : ZB w base bZ L k Z) (hb : Below w.heap.size w w') : ZB w' base bZ L k Z := by
  obtain ⟨us, G, h1, h2, h3, h4, h5⟩ := h
  refine ⟨us, G, h1.below hb h1.lt, h2, h3, fun i hi => ?_, h5⟩
  obtain ⟨a1, a2, vs, ex, a3, a4, a5⟩ := h4 i hi
  exact ⟨a1, a2, vs, ex, a3.below hb a3.lt, a4, fun q hq => let ⟨v, b1, b2⟩ := a5 q hq; ⟨v, b1, b2.below hb⟩⟩
/-- One row more is there. -/
theorem ZB.push {w w' : World} {base bZ L k n m : Nat} {Z : List (List (List Bool))} {us : List Value} {G : Nat → Nat} (h1 : Bx w bZ 44 us) (h2 : us.length = L) (h3 : ∀ i j, i < k → j < k → G i = G j → i = j)
    (h4 : ∀ i, i < k → base ≤ G i ∧ (∃ c, us[i]? = some (.slice (some ⟨G i, 0, none⟩) (rowZ Z i).length c)) ∧ ∃ vs ex, Bx w (G i) 26 (vs ++ ex) ∧ vs.length = (rowZ Z i).length ∧ ∀ q, q < (rowZ Z i).length → ∃ v, vs[q]? = some v ∧ BRow w v (stateZ Z i q))
    (h5 : ∀ i, k ≤ i → i < L → us[i]? = some (.slice none 0 0)) (hk : k < L) (hb : base ≤ w.heap.size) (hn : BkN w bZ k n us m w') (hm : 0 < m) (hZ : rowZ Z k = List.replicate m (List.replicate n false)) : ZB w' base bZ L (k + 1) Z := by
  obtain ⟨u, vs, c1, c2, c3, c4, c5⟩ := hn
  obtain ⟨g, cap, ex, rfl, d1, d2, -⟩ := own_bx c3 (c4 hm)
  have hvl : vs.length = m := by simpa using c3.1
  have hlt : ∀ i, i < k → G i < w.heap.size := fun i hi => let ⟨_, _, vs, ex, a3, _⟩ := h4 i hi; a3.lt
  have hbr : ∀ (v : Value) (r : List Bool), BRow w v r → BRow w' v r := fun v r h => by
    obtain ⟨q, cap, ex, e1, e2⟩ := h
    exact ⟨q, cap, ex, e1, e2.kep c1 (fun e => bx_ne e2 h1 (by decide) e)⟩
  refine ⟨_, fun i => if i = k then g else G i, c2, by rw [List.length_set]; exact h2, fun i j hi hj e => ?_, fun i hi => ?_, fun i hi hiL => ?_⟩
  · simp only at e
    split at e <;> split at e
    · omega
    · have := hlt j (by omega)
      omega
    · have := hlt i (by omega)
      omega
    · exact h3 i j (by omega) (by omega) e
  · by_cases e : i = k
    · subst e
      simp only [if_true]
      refine ⟨by omega, ⟨cap, by rw [List.getElem?_set_self (by omega), hZ, List.length_replicate]⟩, vs, ex, d2, by rw [hvl, hZ, List.length_replicate], fun q hq => ?_⟩
      rw [hZ, List.length_replicate] at hq
      obtain ⟨v, b1, b2⟩ := c5 q hq
      refine ⟨v, b1, ?_⟩
      rw [stateZ, hZ, List.getElem?_replicate, if_pos hq]
      exact b2
    · simp only [if_neg e]
      obtain ⟨a1, ⟨c, a2⟩, vs', ex', a3, a4, a5⟩ := h4 i (by omega)
      exact ⟨a1, ⟨c, by rw [List.getElem?_set_ne (fun x => e x.symm)]; exact a2⟩, vs', ex', a3.kep c1 (fun x => bx_ne a3 h1 (by decide) x), a4, fun q hq => let ⟨v, b1, b2⟩ := a5 q hq; ⟨v, b1, hbr _ _ b2⟩⟩
  · rw [List.getElem?_set_ne (by omega)]
    exact h5 i (by omega) hiL
/-- A row, as it is read, and as a state of it is set. -/
theorem ZB.at {w : World} {base bZ L i : Nat} {Z : List (List (List Bool))} (h : ZB w base bZ L L Z) (hi : i < L) (hL : Z.length = L) : ∃ g c, w.cell? ⟨bZ, i, none⟩ = some (.slice (some ⟨g, 0, none⟩) (rowZ Z i).length c) ∧ base ≤ g ∧
    (∀ q, q < (rowZ Z i).length → ∃ r cr ex, w.cell? ⟨g, q, none⟩ = some (.slice (some ⟨r, 0, none⟩) (stateZ Z i q).length cr) ∧ w.frozen? ⟨g, q, none⟩ = false ∧ Bx w r 4 (bC (stateZ Z i q) ++ ex)) ∧
    ∀ (q : Nat) (v : Value) (r : List Bool), q < (rowZ Z i).length → BRow w v r → ZB (w.setCell ⟨g, q, none⟩ v) base bZ L L (Z.set i ((rowZ Z i).set q r)) ∧ ∀ (x : Value) (y : List Bool), BRow w x y → BRow (w.setCell ⟨g, q, none⟩ v) x y := by
  obtain ⟨us, G, h1, h2, h3, h4, h5⟩ := h
  obtain ⟨a1, ⟨c, a2⟩, vs, ex, a3, a4, a5⟩ := h4 i hi
  refine ⟨G i, c, by rw [h1.cell]; exact a2, a1, fun q hq => ?_, fun q v r hq hv => ?_⟩
  · obtain ⟨v, b1, r, cr, er, rfl, b2⟩ := a5 q hq
    exact ⟨r, cr, er, by rw [a3.cell, List.getElem?_append_left (by omega)]; exact b1, a3.frozen q, b2⟩
  · have hne : G i ≠ bZ := fun e => bx_ne a3 h1 (by decide) e
    have hbr : ∀ (x : Value) (y : List Bool), BRow w x y → BRow (w.setCell ⟨G i, q, none⟩ v) x y := fun x y hx => BRow.setB hx a3
    refine ⟨⟨us, G, h1.far hne _, h2, h3, fun k hk => ?_, h5⟩, hbr⟩
    obtain ⟨k1, ⟨kc, k2⟩, kvs, kex, k3, k4, k5⟩ := h4 k hk
    by_cases e : i = k
    · subst e
      have hr2 : rowZ (Z.set i ((rowZ Z i).set q r)) i = (rowZ Z i).set q r := by rw [setZ (by omega), if_pos rfl]
      refine ⟨k1, ⟨kc, by rw [hr2, List.length_set]; exact k2⟩, vs.set q v, ex, ?_, by rw [hr2, List.length_set, List.length_set]; exact a4, fun p hp => ?_⟩
      · have := a3.set q v
        rw [List.set_append_left _ _ (by omega)] at this
        exact this
      · rw [hr2, List.length_set] at hp
        rw [stateZ, hr2]
        by_cases e2 : q = p
        · subst e2
          exact ⟨v, List.getElem?_set_self (by omega), by rw [List.getElem?_set_self hp]; exact hbr _ _ hv⟩
        · obtain ⟨x, b1, b2⟩ := a5 p hp
          exact ⟨x, by rw [List.getElem?_set_ne e2]; exact b1, by rw [List.getElem?_set_ne e2]; exact hbr _ _ b2⟩
    · have hr2 : rowZ (Z.set i ((rowZ Z i).set q r)) k = rowZ Z k := by rw [setZ (by omega), if_neg e]
      refine ⟨k1, ⟨kc, by rw [hr2]; exact k2⟩, kvs, kex, k3.far (fun x => e (h3 i k hi hk x)) _, by rw [hr2]; exact k4, fun p hp => ?_⟩
      rw [hr2] at hp
      obtain ⟨x, b1, b2⟩ := k5 p hp
      exact ⟨x, b1, by rw [stateZ, hr2]; exact hbr _ _ b2⟩
theorem ZB.rd {w : World} {base bZ L : Nat} {Z : List (List (List Bool))} (h : ZB w base bZ L L Z) (hL : Z.length = L) : Rd3 w (.slice (some ⟨bZ, 0, none⟩) L L) Z := by
  refine ⟨_, L, by rw [hL], fun _ => ⟨bZ, 0, rfl, fun i hi => ?_⟩⟩
  rw [hL] at hi
  obtain ⟨g, c, h1, -, h3, -⟩ := h.at hi hL
  refine ⟨_, by rw [Nat.zero_add]; exact h1, _, c, rfl, fun _ => ⟨g, 0, rfl, fun q hq => ?_⟩⟩
  obtain ⟨r, cr, ex, b1, -, b3⟩ := h3 q hq
  exact ⟨_, by rw [Nat.zero_add]; exact b1, BRow.rd ⟨r, cr, ex, rfl, b3⟩⟩
theorem zro_row {g : Gb} {n i : Nat} (hi : i < g.length) : rowZ (zroZ g n) i = List.replicate (insR g i + 2) (List.replicate n false) := by
  rw [rowZ, zroZ, List.getElem?_map, List.getElem?_range hi]
  rfl
/-- A row while it is looked at: from state q on it is new. -/
def mixR (g : Gb) (n : Nat) (C : List Chg) (Z : List (List (List Bool))) (i : Nat) (now : List Bool) (q : Nat) : List (List Bool) := (List.range (insR g i + 2)).map fun k => if k < q then stateZ Z i k else bkF g n C i k now
theorem mixR_len {g : Gb} {n : Nat} {C : List Chg} {Z : List (List (List Bool))} {i : Nat} {now : List Bool} {q : Nat} : (mixR g n C Z i now q).length = insR g i + 2 := by simp [mixR]
theorem mixR_at {g : Gb} {n : Nat} {C : List Chg} {Z : List (List (List Bool))} {i : Nat} {now : List Bool} {q k : Nat} (h : k < insR g i + 2) : (mixR g n C Z i now q)[k]? = some (if k < q then stateZ Z i k else bkF g n C i k now) := by
  rw [mixR, List.getElem?_map, List.getElem?_range h]
  rfl
theorem mixR_all {g : Gb} {n : Nat} {C : List Chg} {Z : List (List (List Bool))} {i : Nat} {now : List Bool} (h : (rowZ Z i).length = insR g i + 2) : mixR g n C Z i now (insR g i + 2) = rowZ Z i := by
  refine List.ext_getElem (by rw [mixR_len, h]) fun k h1 h2 => ?_
  have h3 := mixR_at (g := g) (n := n) (C := C) (Z := Z) (i := i) (now := now) (q := insR g i + 2) (k := k) (by omega)
  rw [if_pos (by omega), List.getElem?_eq_getElem h1, stateZ, List.getElem?_eq_getElem h2] at h3
  exact Option.some.inj h3
theorem mixR_zero {g : Gb} {n : Nat} {C : List Chg} {Z : List (List (List Bool))} {i : Nat} {now : List Bool} : mixR g n C Z i now 0 = bkR g n C i now := by
  simp [mixR, bkR]
theorem mixR_set {g : Gb} {n : Nat} {C : List Chg} {Z : List (List (List Bool))} {i : Nat} {now : List Bool} {q : Nat} (h : q < insR g i + 2) : (mixR g n C Z i now (q + 1)).set q (bkF g n C i q now) = mixR g n C Z i now q := by
  refine List.ext_getElem? fun k => ?_
  by_cases hk : k < insR g i + 2
  · rw [mixR_at hk]
    by_cases e : q = k
    · subst e
      rw [List.getElem?_set_self (by rw [mixR_len]; exact h), if_neg (Nat.lt_irrefl _)]
    · rw [List.getElem?_set_ne e, mixR_at hk]
      by_cases e2 : k < q
      · rw [if_pos e2, if_pos (by omega)]
      · rw [if_neg e2, if_neg (by omega)]
  · rw [List.getElem?_eq_none (by rw [List.length_set, mixR_len]; omega), List.getElem?_eq_none (by rw [mixR_len]; omega)]
theorem mixR_eq {g : Gb} {n : Nat} {C : List Chg} {Z : List (List (List Bool))} {i : Nat} {now : List Bool} {q : Nat} (hc : (rowZ Z i).length = insR g i + 2) (h : q < insR g i + 2) : mixR g n C Z i now q = rowZ Z i ↔ (mixR g n C Z i now (q + 1) = rowZ Z i ∧ bkF g n C i q now = stateZ Z i q) := by
  have hq : q < (rowZ Z i).length := by omega
  constructor
  · intro e
    have h1 : (mixR g n C Z i now q)[q]? = (rowZ Z i)[q]? := by rw [e]
    rw [mixR_at h, if_neg (Nat.lt_irrefl _)] at h1
    have h2 : bkF g n C i q now = stateZ Z i q := by rw [stateZ, ← h1]; rfl
    refine ⟨?_, h2⟩
    rw [← e, ← mixR_set h]
    refine (set_sameB (A := mixR g n C Z i now (q + 1)) (by rw [mixR_len]; exact h) ?_).symm
    rw [rowA, mixR_at h, if_pos (Nat.lt_succ_self _)]
    exact h2
  · rintro ⟨e1, e2⟩
    rw [← mixR_set h, e1]
    exact set_sameB hq e2
theorem setZ_set {Z : List (List (List Bool))} {i : Nat} {r r' : List (List Bool)} : (Z.set i r).set i r' = Z.set i r' := by rw [List.set_set]
theorem setZ_row {Z : List (List (List Bool))} {i : Nat} (hi : i < Z.length) : Z.set i (rowZ Z i) = Z := by
  refine List.ext_getElem? fun k => ?_
  by_cases e : i = k
  · subst e
    rw [List.getElem?_set_self hi, rowZ, List.getElem?_eq_getElem hi]
    rfl
  · rw [List.getElem?_set_ne e]
/-- What is needed behind an end, of some of the blocks to which it goes. -/
def NbK (n : Nat) (Z : List (List (List Bool))) (P : List Nat) (now : List Bool) : Prop := now.length = n ∧ ∀ j, j < n → (now[j]?.getD false = true ↔ ∃ t ∈ P, valZ Z t 0 j = true)
theorem NbK.start (n : Nat) (Z : List (List (List Bool))) : NbK n Z [] (List.replicate n false) := ⟨by simp, fun j hj => by simp [List.getElem?_replicate, hj]⟩
theorem NbK.step {n p : Nat} {Z : List (List (List Bool))} {P : List Nat} {now now' : List Bool} (h : NbK n Z P now) (hl : now'.length = n) (hv : ∀ j, j < n → now'[j]?.getD false = (now[j]?.getD false || valZ Z p 0 j)) : NbK n Z (P ++ [p]) now' := by
  refine ⟨hl, fun j hj => ?_⟩
  rw [hv j hj, Bool.or_eq_true, h.2 j hj]
  constructor
  · rintro (⟨q, b, c⟩ | a)
    · exact ⟨q, List.mem_append_left _ b, c⟩
    · exact ⟨p, by simp, a⟩
  · rintro ⟨q, b, c⟩
    rw [List.mem_append, List.mem_singleton] at b
    rcases b with b | rfl
    · exact .inl ⟨q, b, c⟩
    · exact .inr c

set_option maxRecDepth 100000 in
set_option maxHeartbeats 8000000 in
theorem rback_any (n0 : Nat) (B : Bv) (ni : Int) (n : Nat) (oc : Option Addr) (capC : Nat) (C : List Chg) (w : World) (hn : n = ni.toNat) (hB : B.At n0 w) (hs : B.Small) (hC : CRow n0 w oc C) (hcs : CSmall C) (hn1 : n ≤ 1000) (hn0 : n0 ≤ w.heap.size) :
    Calls Try.prog 17 #[B.v, .int .i64 ni, .slice oc C.length capC] w fun e w' => BackZ B.g n C w e w' := by
  obtain ⟨nm, pa, lo, oa, cap, g⟩ := B
  simp only at hs ⊢
  obtain ⟨L, hL⟩ : ∃ L, L = g.length := ⟨_, rfl⟩
  obtain ⟨kC, hnC⟩ : ∃ k, k = C.length := ⟨_, rfl⟩
  have hL1 : L ≤ 1000 := by rw [hL]; exact hs.1
  have hC1 : kC ≤ 100 := by rw [hnC]; exact hcs.1
  rw [← hnC]
  have HA := Lib.hid (And.intro hB (And.intro hs (And.intro hC (And.intro hcs (And.intro hn0 (And.intro hL hnC))))))
  unfold Bv.v Bv.cs
  simp only [← hL]
  have HFG : Go.RowKit.Hid (∀ W v, Calls Try.prog 33 #[.int .i64 ni, .bool v] W fun e w' => ∃ r, e = .returned (.slice (some ⟨r, 0, none⟩) n n) ∧ W.heap.size ≤ r ∧ Bx w' r 4 (bC (List.replicate n v)) ∧ Below W.heap.size W w') := Lib.hid (fun W v => flags_any ni v n W hn hn1)
  clear hB hs hC hcs hn0 hL hnC hn
  go_enter Try.func17, Try.ntmps17
  go_upto_region 1 with fail
  obtain ⟨wa, hwa⟩ : ∃ wa, wa = w.alloc (.cells #[nm, pa, lo, .slice oa L cap] 25) := ⟨_, rfl⟩
  obtain ⟨s, hs⟩ : ∃ s, s = w.heap.size := ⟨_, rfl⟩
  rw [← hwa, ← hs]
  have hxa : Bx wa s 25 [nm, pa, lo, .slice oa L cap] := by
    rw [hwa, hs]
    exact Bx.new w _ [nm, pa, lo, .slice oa L cap]
  have hba : Below w.heap.size w wa := by
    rw [hwa]
    exact (Below.refl _ _).alloc (Nat.le_refl _) _
  have e3 := hxa.cell 3
  simp at e3
  have HW := Lib.hid (And.intro hxa hba)
  clear hxa hba hwa hs
  have hmk := make_rows3 L hL1
  go_upto_region 2 with fail
  clear hmk e3
  obtain ⟨bZ, hbZ⟩ : ∃ k, k = wa.heap.size := ⟨_, rfl⟩
  obtain ⟨w8, hw8⟩ : ∃ w8, w8 = wa.alloc (.cells (Array.replicate L (.slice none 0 0)) 44) := ⟨_, rfl⟩
  rw [← hw8, ← hbZ]
  have H8 : Go.RowKit.Hid (ZB w8 wa.heap.size bZ L 0 (zroZ g n) ∧ Below wa.heap.size wa w8 ∧ wa.heap.size ≤ bZ) := Lib.hid (by
    refine ⟨⟨List.replicate L (.slice none 0 0), fun _ => 0, ?_, List.length_replicate, fun i j hi => absurd hi (Nat.not_lt_zero _), fun i hi => absurd hi (Nat.not_lt_zero _), fun i _ hi => by rw [List.getElem?_replicate, if_pos hi]⟩, ?_, by omega⟩
    · rw [hw8, hbZ, ← List.toArray_replicate]
      exact Bx.new wa 44 (List.replicate L (.slice none 0 0))
    · rw [hw8]
      exact (Below.refl _ _).alloc (Nat.le_refl _) _)
  clear hw8 hbZ
  obtain ⟨i5, hi5, hz5, hs5, hb5⟩ := info_parts infoRow
  have HI5 := Lib.hid (And.intro hi5 (And.intro hz5 (And.intro hs5 hb5)))
  clear hi5 hz5 hs5 hb5
  go_wp2
  go_loopw [8] (fun u wr => ∃ i : Nat, i ≤ L ∧ u = .int .i64 i ∧ ZB wr wa.heap.size bZ L i (zroZ g n) ∧ Below wa.heap.size wa wr) (fun u _ => L - (intOf u).toNat)
  case atStart => exact ⟨0, Nat.zero_le _, rfl, H8.out.1, H8.out.2.1⟩
  case round =>
    obtain ⟨i, hi, rfl, hzb, hbz⟩ := hrel
    obtain ⟨wi, rfl⟩ : ∃ wi : World, wi = wr := ⟨_, rfl⟩
    have HI := Lib.hid (And.intro hzb hbz)
    clear hzb hbz
    by_cases hlt : i < L
    · as_aux_lemma =>
        obtain ⟨us, G, h1, h2, h3, h4, h5⟩ := HI.out.1
        obtain ⟨m, hm⟩ : ∃ m, m = insR g i := ⟨_, rfl⟩
        have hig : i < g.length := by have := HA.out.2.2.2.2.2.1; omega
        have hm1 : m ≤ 1000 := by rw [hm]; exact (HA.out.2.1.2 i).1
        have hul : i < us.length := by omega
        have hus : us.set i (.slice none 0 0) = us := List.ext_getElem? fun k => by
          by_cases e : i = k
          · subst e
            rw [List.getElem?_set_self hul, h5 i (Nat.le_refl _) hlt]
          · rw [List.getElem?_set_ne e]
        obtain ⟨bl, fl, hoa, hbl, hrow⟩ := HA.out.1 (by show 0 < g.length; omega)
        have hoa' : oa = some ⟨bl, fl, none⟩ := hoa
        subst hoa'
        obtain ⟨⟨ia, ic, cB⟩, -⟩ := hrow i hig
        rw [← hm] at cB
        have hbZ := H8.out.2.2
        have HKB : Go.RowKit.Hid (∀ W, Kep (fun b => b = bZ) wi W → Below wa.heap.size wa W) := Lib.hid (fun W h => HI.out.2.trans (h.to_below HI.out.2.size (fun k hk e => by omega)))
        have HCB : Go.RowKit.Hid (∀ W, Kep (fun b => b = bZ) wi W → W.cell? ⟨bl, fl + i * 17, none⟩ = some (.slice ia m ic) ∧ W.cell? ⟨s, 3, none⟩ = some (.slice (some ⟨bl, fl, none⟩) L cap)) := Lib.hid (fun W h => by
          have h1 := HKB.out W h
          exact ⟨below_cell (HW.out.2.trans (h1.mono HW.out.2.size)) cB, by
            have := (HW.out.1.below h1 HW.out.1.lt).cell 3
            simpa using this⟩)
        have HZ := Lib.hid (And.intro h1 (And.intro h2 (And.intro h3 (And.intro h4 (And.intro h5 (And.intro hus (And.intro hm hig)))))))
        clear h1 h2 h3 h4 h5 hus hm hig hoa hbl hrow cB hbZ
        go_wp2
        go_loopw [9] (fun uk wr => ∃ k : Nat, k ≤ m + 2 ∧ uk = .int .i64 k ∧ BkN wi bZ i n us k wr) (fun uk _ => m + 2 - (intOf uk).toNat)
        case atStart => exact ⟨0, Nat.zero_le _, rfl, .slice none 0 0, [], Kep.refl _ _, by rw [HZ.out.2.2.2.2.2.1]; exact HZ.out.1, World.ownsRow_nil _ _ _ _, fun h => absurd h (Nat.lt_irrefl _), fun j hj => absurd hj (Nat.not_lt_zero _)⟩
        case round =>
          obtain ⟨k, hk, rfl, hbn⟩ := hrel
          obtain ⟨wq, rfl⟩ : ∃ wq : World, wq = wr := ⟨_, rfl⟩
          by_cases hlk : k < m + 2
          · as_aux_lemma =>
              obtain ⟨u, vs, c1, c2, c3, c4, c5⟩ := hbn
              obtain ⟨cB, e3⟩ := HCB.out wq c1
              obtain ⟨ou, cu, rfl, -⟩ := own_parts c3
              have HB := Lib.hid (And.intro c1 (And.intro c2 (And.intro c3 (And.intro c4 c5))))
              clear c1 c2 c3 c4 c5
              go_upto_region 8 with fail
              clear cB e3
              refine wp_region_held_drew (S := (fun _ => True)) (by kernel_rfl) ?_ (fun hHeld => ?_)
              · trivial
              obtain ⟨Wd, hWd⟩ : ∃ Wd, Wd = wq.drew := ⟨_, rfl⟩
              have HD : Go.RowKit.Hid (Kep (fun b => b = bZ) wi Wd ∧ Bx Wd bZ 44 (us.set i (.slice ou k cu)) ∧ Wd.ownsRow wi.heap.size 26 1 (.slice ou k cu) k vs ∧ (0 < k → Value.slice ou k cu ≠ .slice none 0 0) ∧ (∀ j, j < k → ∃ v, vs[j]? = some v ∧ BRow Wd v (List.replicate n false))) := Lib.hid (by
                rw [hWd]
                obtain ⟨c1, c2, c3, c4, c5⟩ := HB.out
                exact ⟨c1.drew, c2, c3, c4, fun j hj => let ⟨v, b1, b2⟩ := c5 j hj; ⟨v, b1, b2.below (Below.refl _ _).drew⟩⟩)
              have cX : Wd.cell? ⟨bZ, i, none⟩ = some (.slice ou k cu) := by
                have h := HD.out.2.1.cell i
                rw [List.getElem?_set_self hul] at h
                exact h
              rw [← hWd]
              clear hWd
              refine wpAnyH_take (i := 0) (oi := { dst := some 39, op := Op.move (Operand.tmp 7), type := 31, pos := "ref.go:192", after := #[], guard := none }) (v := ?vq0_2) rfl (by kernel_rfl) (by kernel_rfl) (by kernel_rfl) (fun _ _ _ h => h) (Or.inl ⟨by rfl, ?hq0_2⟩) (by assumption) ?_
              case hq0_2 => intro w hSw; (try dsimp only at hSw); go_simp; try (with_reducible rfl)
              (try simp only [Act.put, List.setIfInBounds_toArray, List.set_cons_zero, List.set_cons_succ])
              refine wpAnyH_take (i := 1) (oi := { dst := some 40, op := Op.move (Operand.tmp 8), type := 3, pos := "ref.go:192", after := #[], guard := none }) (v := ?vq1_3) rfl (by kernel_rfl) (by kernel_rfl) (by kernel_rfl) (fun _ _ _ h => h) (Or.inl ⟨by rfl, ?hq1_3⟩) (by assumption) ?_
              case hq1_3 => intro w hSw; (try dsimp only at hSw); go_simp; try (with_reducible rfl)
              (try simp only [Act.put, List.setIfInBounds_toArray, List.set_cons_zero, List.set_cons_succ])
              refine wpAnyH_take (i := 2) (oi := { dst := some 41, op := Op.move (Operand.tmp 7), type := 31, pos := "ref.go:192", after := #[], guard := none }) (v := ?vq2_4) rfl (by kernel_rfl) (by kernel_rfl) (by kernel_rfl) (fun _ _ _ h => h) (Or.inl ⟨by rfl, ?hq2_4⟩) (by assumption) ?_
              case hq2_4 => intro w hSw; (try dsimp only at hSw); go_simp; try (with_reducible rfl)
              (try simp only [Act.put, List.setIfInBounds_toArray, List.set_cons_zero, List.set_cons_succ])
              refine wpAnyH_take (i := 3) (oi := { dst := some 42, op := Op.move (Operand.tmp 8), type := 3, pos := "ref.go:192", after := #[], guard := none }) (v := ?vq3_5) rfl (by kernel_rfl) (by kernel_rfl) (by kernel_rfl) (fun _ _ _ h => h) (Or.inl ⟨by rfl, ?hq3_5⟩) (by assumption) ?_
              case hq3_5 => intro w hSw; (try dsimp only at hSw); go_simp; try (with_reducible rfl)
              (try simp only [Act.put, List.setIfInBounds_toArray, List.set_cons_zero, List.set_cons_succ])
              refine wpAnyH_take (i := 6) (oi := { dst := some 45, op := Op.move (Operand.tmp 1), type := 3, pos := "ref.go:192", after := #[], guard := none }) (v := ?vq6_6) rfl (by kernel_rfl) (by kernel_rfl) (by kernel_rfl) (fun _ _ _ h => h) (Or.inl ⟨by rfl, ?hq6_6⟩) (by assumption) ?_
              case hq6_6 => intro w hSw; (try dsimp only at hSw); go_simp; try (with_reducible rfl)
              (try simp only [Act.put, List.setIfInBounds_toArray, List.set_cons_zero, List.set_cons_succ])
              refine wpAnyH_take (i := 4) (oi := { dst := some 43, op := Op.indexAddr 31 (Operand.tmp 41) (Operand.tmp 42), type := 0, pos := "ref.go:192", after := #[{ on := 2, ground := Ground.data }, { on := 3, ground := Ground.data }], guard := none }) (v := .pointer (some ⟨bZ, i, none⟩)) rfl (by kernel_rfl) (by kernel_rfl) (by kernel_rfl) (fun _ _ _ h => h) (Or.inl ⟨by rfl, ?hq4_7⟩) (by assumption) ?_
              case hq4_7 => intro w hSw; (try dsimp only at hSw); go_simp; try (intro h; exfalso; omega)
              (try simp only [Act.put, List.setIfInBounds_toArray, List.set_cons_zero, List.set_cons_succ])
              refine wpAnyH_ready (rs := [5, 7]) (by kernel_rfl) (by simp) ?_
              refine AllReadyH.cons (o := { dst := some 44, op := Op.load 44 (Operand.tmp 43), type := 44, pos := "ref.go:192", after := #[{ on := 4, ground := Ground.data }], guard := none }) rfl (fun K hK => ?_) ?_
              · go_simp
                refine hK.out _ _ trivial (fun hHeld => ?_)
                clear hK K
                (try simp only [Act.put, List.setIfInBounds_toArray, List.set_cons_zero, List.set_cons_succ])
                refine wpAnyH_ready (rs := [7]) (by kernel_rfl) (by simp) ?_
                refine AllReadyH.cons (o := { dst := some 46, op := Op.call { callee := Callee.value (Operand.func 33), args := #[Operand.tmp 45, Operand.const (Value.bool false)], argTypes := #[3, 4] }, type := 26, pos := "ref.go:192", after := #[{ on := 6, ground := Ground.data }], guard := none }) rfl (fun K hK => ?_) AllReadyH.nil
                go_simp
                refine (HFG.out Wd false).mono ?_
                rintro e w7 ⟨rF, rfl, q1, q2, q3⟩
                have HX7 : Go.RowKit.Hid (Kep (fun b => b = bZ) wi w7 ∧ Bx w7 bZ 44 (us.set i (.slice ou k cu)) ∧ w7.ownsRow wi.heap.size 26 1 (.slice ou k cu) k vs ∧ (∀ j, j < k → ∃ v, vs[j]? = some v ∧ BRow w7 v (List.replicate n false)) ∧ BRow w7 (.slice (some ⟨rF, 0, none⟩) n n) (List.replicate n false) ∧ Below Wd.heap.size Wd w7) := Lib.hid (by
                  obtain ⟨c1, c2, c3, c4, c5⟩ := HD.out
                  exact ⟨c1.below q3, c2.below q3 c2.lt, own_kep c3 (Kep.of_below (M := fun _ => False) q3) (fun _ _ h => h), fun j hj => let ⟨v, b1, b2⟩ := c5 j hj; ⟨v, b1, b2.below q3⟩, ⟨rF, n, [], by simp, by simpa using q2⟩, q3⟩)
                have cX7 := below_cell q3 cX
                clear q1 q2 q3
                refine hK.out _ _ trivial (fun hHeld => ?_)
                clear hK K
                (try simp only [Act.put, List.setIfInBounds_toArray, List.set_cons_zero, List.set_cons_succ])
                refine wpAnyH_ready (rs := [8]) (by kernel_rfl) (by simp) ?_
                refine AllReadyH.cons (o := { dst := some 47, op := Op.buildSlice 44 1 #[(0, Operand.tmp 46)], type := 44, pos := "ref.go:192", after := #[{ on := 7, ground := Ground.data }], guard := none }) rfl (fun K hK => ?_) AllReadyH.nil
                go_simp
                obtain ⟨Wa, hWa⟩ : ∃ Wa, Wa = w7.alloc (.cells #[.slice (some ⟨rF, 0, none⟩) n n] 26) := ⟨_, rfl⟩
                rw [← hWa]
                obtain ⟨ua, hua⟩ : ∃ ua, ua = w7.heap.size := ⟨_, rfl⟩
                rw [← hua]
                have cXa : Wa.cell? ⟨bZ, i, none⟩ = some (.slice ou k cu) := by rw [hWa]; exact cellA _ cX7
                have HWA := Lib.hid (And.intro hWa hua)
                clear hWa hua
                refine hK.out _ _ trivial (fun hHeld => ?_)
                clear hK K
                (try simp only [Act.put, List.setIfInBounds_toArray, List.set_cons_zero, List.set_cons_succ])
                clear cX cX7 cXa
                refine wpAnyH_ready (rs := [9]) (by kernel_rfl) (by simp) ?_
                refine AllReadyH.cons (o := { dst := some 48, op := Op.call { callee := Callee.builtin Builtin.append, args := #[Operand.tmp 44, Operand.tmp 47], argTypes := #[44, 44] }, type := 44, pos := "ref.go:192", after := #[{ on := 5, ground := Ground.data }, { on := 8, ground := Ground.data }, { on := 7, ground := Ground.chain }], guard := none }) rfl (fun K hK => ?_) AllReadyH.nil
                refine op_append_own_at (.tmp 44) (.tmp 47) 44 rfl wi.heap.size 26 i5 _ 1 24 Try.underlying44 HI5.out.1 HI5.out.2.1 HI5.out.2.2.1 HI5.out.2.2.2 rfl (by decide) (.slice ou k cu) k vs rfl (by rw [HWA.out.1]; exact (show World.ownsRow _ _ _ _ _ _ _ from HX7.out.2.2.1).alloc _) ⟨ua, 0, none⟩ 1 1 [.slice (some ⟨rF, 0, none⟩) n n] rfl rfl (by rw [HWA.out.1, HWA.out.2]; exact new_cells _ [.slice (some ⟨rF, 0, none⟩) n n] _) (fun u hu => by simp at hu; subst hu; rfl) (by unfold maxLen; omega) (by omega) (by rw [HWA.out.1]; have := HX7.out.1.size; simp; omega) ?_
                intro v' w9 hown hg hnil hat
                have hne0 : v' ≠ .slice none 0 0 := fun e => by
                  have := (hnil.1 e).2
                  omega
                obtain ⟨gA1, cA1, exA1, rfl, -, -, -⟩ := own_bx hown hne0
                have HQ : Go.RowKit.Hid (BkN wi bZ i n us (k + 1) (w9.setCell ⟨bZ, i, none⟩ (.slice (some ⟨gA1, 0, none⟩) (k + 1) cA1)) ∧ Bx w9 bZ 44 (us.set i (.slice ou k cu))) := Lib.hid (by
                  obtain ⟨x1, x2, x3, x4, x5, -⟩ := HX7.out
                  rw [HWA.out.1] at hg
                  have hk9 : Kep (fun b => (Value.slice ou k cu).ownBlock = some b) w7 w9 := ((Kep.refl _ w7).alloc _).grown hg (fun q hq => .inr hq)
                  exact ⟨BkN.push x1 x2 x3 x4 x5 hown hg hne0, x2.kep hk9 (fun h => own_ne x3 x2 (fun cs fr e => by cases e) h)⟩)
                have fZ9 := HQ.out.2.frozen i
                have cZ9 := HQ.out.2.cell i
                rw [List.getElem?_set_self hul] at cZ9
                clear hown hg hnil hat hne0
                refine hK.out _ _ trivial (fun hHeld => ?_)
                clear hK K
                (try simp only [Act.put, List.setIfInBounds_toArray, List.set_cons_zero, List.set_cons_succ])
                refine wpAnyH_take (i := 10) (oi := { dst := some 49, op := Op.indexAddr 31 (Operand.tmp 39) (Operand.tmp 40), type := 0, pos := "ref.go:192", after := #[{ on := 0, ground := Ground.data }, { on := 1, ground := Ground.data }, { on := 0, ground := Ground.phase }, { on := 1, ground := Ground.phase }, { on := 2, ground := Ground.phase }, { on := 3, ground := Ground.phase }, { on := 4, ground := Ground.phase }, { on := 5, ground := Ground.phase }, { on := 6, ground := Ground.phase }, { on := 7, ground := Ground.phase }, { on := 8, ground := Ground.phase }, { on := 9, ground := Ground.phase }], guard := none }) (v := .pointer (some ⟨bZ, i, none⟩)) rfl (by kernel_rfl) (by kernel_rfl) (by kernel_rfl) (fun _ _ _ h => h) (Or.inl ⟨by rfl, ?hq10_1⟩) (by assumption) ?_
                case hq10_1 => intro w hSw; (try dsimp only at hSw); go_simp; try (intro h; exfalso; omega)
                (try simp only [Act.put, List.setIfInBounds_toArray, List.set_cons_zero, List.set_cons_succ])
                refine wpAnyH_ready (rs := [11]) (by kernel_rfl) (by simp) ?_
                refine AllReadyH.cons (o := { dst := none, op := Op.store 44 (Operand.tmp 49) (Operand.tmp 48), type := 0, pos := "ref.go:192", after := #[{ on := 10, ground := Ground.data }, { on := 9, ground := Ground.data }, { on := 9, ground := Ground.chain }, { on := 0, ground := Ground.phase }, { on := 1, ground := Ground.phase }, { on := 2, ground := Ground.phase }, { on := 3, ground := Ground.phase }, { on := 4, ground := Ground.phase }, { on := 5, ground := Ground.phase }, { on := 6, ground := Ground.phase }, { on := 7, ground := Ground.phase }, { on := 8, ground := Ground.phase }, { on := 9, ground := Ground.phase }], guard := none }) rfl (fun K hK => ?_) AllReadyH.nil
                go_simp
                refine hK.out _ _ trivial (fun hHeld => ?_)
                clear hK K
                (try simp only [Act.put, List.setIfInBounds_toArray, List.set_cons_zero, List.set_cons_succ])
                refine wpAnyH_done (by kernel_rfl) ?_ _
                clear cZ9 fZ9
                go_wp2
                go_roundw
                case rel => exact ⟨k + 1, hlk, nxt _, HQ.out.1⟩
                case measure => exact meas hlk
              refine AllReadyH.cons (o := { dst := some 46, op := Op.call { callee := Callee.value (Operand.func 33), args := #[Operand.tmp 45, Operand.const (Value.bool false)], argTypes := #[3, 4] }, type := 26, pos := "ref.go:192", after := #[{ on := 6, ground := Ground.data }], guard := none }) rfl (fun K hK => ?_) AllReadyH.nil
              go_simp
              refine (HFG.out Wd false).mono ?_
              rintro e w7 ⟨rF, rfl, q1, q2, q3⟩
              have HX7 : Go.RowKit.Hid (Kep (fun b => b = bZ) wi w7 ∧ Bx w7 bZ 44 (us.set i (.slice ou k cu)) ∧ w7.ownsRow wi.heap.size 26 1 (.slice ou k cu) k vs ∧ (∀ j, j < k → ∃ v, vs[j]? = some v ∧ BRow w7 v (List.replicate n false)) ∧ BRow w7 (.slice (some ⟨rF, 0, none⟩) n n) (List.replicate n false) ∧ Below Wd.heap.size Wd w7) := Lib.hid (by
                obtain ⟨c1, c2, c3, c4, c5⟩ := HD.out
                exact ⟨c1.below q3, c2.below q3 c2.lt, own_kep c3 (Kep.of_below (M := fun _ => False) q3) (fun _ _ h => h), fun j hj => let ⟨v, b1, b2⟩ := c5 j hj; ⟨v, b1, b2.below q3⟩, ⟨rF, n, [], by simp, by simpa using q2⟩, q3⟩)
              have cX7 := below_cell q3 cX
              clear q1 q2 q3
              refine hK.out _ _ trivial (fun hHeld => ?_)
              clear hK K
              (try simp only [Act.put, List.setIfInBounds_toArray, List.set_cons_zero, List.set_cons_succ])
              refine wpAnyH_ready (rs := [5, 8]) (by kernel_rfl) (by simp) ?_
              refine AllReadyH.cons (o := { dst := some 44, op := Op.load 44 (Operand.tmp 43), type := 44, pos := "ref.go:192", after := #[{ on := 4, ground := Ground.data }], guard := none }) rfl (fun K hK => ?_) ?_
              · go_simp
                refine hK.out _ _ trivial (fun hHeld => ?_)
                clear hK K
                (try simp only [Act.put, List.setIfInBounds_toArray, List.set_cons_zero, List.set_cons_succ])
                refine wpAnyH_ready (rs := [8]) (by kernel_rfl) (by simp) ?_
                refine AllReadyH.cons (o := { dst := some 47, op := Op.buildSlice 44 1 #[(0, Operand.tmp 46)], type := 44, pos := "ref.go:192", after := #[{ on := 7, ground := Ground.data }], guard := none }) rfl (fun K hK => ?_) AllReadyH.nil
                go_simp
                obtain ⟨Wa, hWa⟩ : ∃ Wa, Wa = w7.alloc (.cells #[.slice (some ⟨rF, 0, none⟩) n n] 26) := ⟨_, rfl⟩
                rw [← hWa]
                obtain ⟨ua, hua⟩ : ∃ ua, ua = w7.heap.size := ⟨_, rfl⟩
                rw [← hua]
                have cXa : Wa.cell? ⟨bZ, i, none⟩ = some (.slice ou k cu) := by rw [hWa]; exact cellA _ cX7
                have HWA := Lib.hid (And.intro hWa hua)
                clear hWa hua
                refine hK.out _ _ trivial (fun hHeld => ?_)
                clear hK K
                (try simp only [Act.put, List.setIfInBounds_toArray, List.set_cons_zero, List.set_cons_succ])
                clear cX cX7 cXa
                refine wpAnyH_ready (rs := [9]) (by kernel_rfl) (by simp) ?_
                refine AllReadyH.cons (o := { dst := some 48, op := Op.call { callee := Callee.builtin Builtin.append, args := #[Operand.tmp 44, Operand.tmp 47], argTypes := #[44, 44] }, type := 44, pos := "ref.go:192", after := #[{ on := 5, ground := Ground.data }, { on := 8, ground := Ground.data }, { on := 7, ground := Ground.chain }], guard := none }) rfl (fun K hK => ?_) AllReadyH.nil
                refine op_append_own_at (.tmp 44) (.tmp 47) 44 rfl wi.heap.size 26 i5 _ 1 24 Try.underlying44 HI5.out.1 HI5.out.2.1 HI5.out.2.2.1 HI5.out.2.2.2 rfl (by decide) (.slice ou k cu) k vs rfl (by rw [HWA.out.1]; exact (show World.ownsRow _ _ _ _ _ _ _ from HX7.out.2.2.1).alloc _) ⟨ua, 0, none⟩ 1 1 [.slice (some ⟨rF, 0, none⟩) n n] rfl rfl (by rw [HWA.out.1, HWA.out.2]; exact new_cells _ [.slice (some ⟨rF, 0, none⟩) n n] _) (fun u hu => by simp at hu; subst hu; rfl) (by unfold maxLen; omega) (by omega) (by rw [HWA.out.1]; have := HX7.out.1.size; simp; omega) ?_
                intro v' w9 hown hg hnil hat
                have hne0 : v' ≠ .slice none 0 0 := fun e => by
                  have := (hnil.1 e).2
                  omega
                obtain ⟨gA1, cA1, exA1, rfl, -, -, -⟩ := own_bx hown hne0
                have HQ : Go.RowKit.Hid (BkN wi bZ i n us (k + 1) (w9.setCell ⟨bZ, i, none⟩ (.slice (some ⟨gA1, 0, none⟩) (k + 1) cA1)) ∧ Bx w9 bZ 44 (us.set i (.slice ou k cu))) := Lib.hid (by
                  obtain ⟨x1, x2, x3, x4, x5, -⟩ := HX7.out
                  rw [HWA.out.1] at hg
                  have hk9 : Kep (fun b => (Value.slice ou k cu).ownBlock = some b) w7 w9 := ((Kep.refl _ w7).alloc _).grown hg (fun q hq => .inr hq)
                  exact ⟨BkN.push x1 x2 x3 x4 x5 hown hg hne0, x2.kep hk9 (fun h => own_ne x3 x2 (fun cs fr e => by cases e) h)⟩)
                have fZ9 := HQ.out.2.frozen i
                have cZ9 := HQ.out.2.cell i
                rw [List.getElem?_set_self hul] at cZ9
                clear hown hg hnil hat hne0
                refine hK.out _ _ trivial (fun hHeld => ?_)
                clear hK K
                (try simp only [Act.put, List.setIfInBounds_toArray, List.set_cons_zero, List.set_cons_succ])
                refine wpAnyH_take (i := 10) (oi := { dst := some 49, op := Op.indexAddr 31 (Operand.tmp 39) (Operand.tmp 40), type := 0, pos := "ref.go:192", after := #[{ on := 0, ground := Ground.data }, { on := 1, ground := Ground.data }, { on := 0, ground := Ground.phase }, { on := 1, ground := Ground.phase }, { on := 2, ground := Ground.phase }, { on := 3, ground := Ground.phase }, { on := 4, ground := Ground.phase }, { on := 5, ground := Ground.phase }, { on := 6, ground := Ground.phase }, { on := 7, ground := Ground.phase }, { on := 8, ground := Ground.phase }, { on := 9, ground := Ground.phase }], guard := none }) (v := .pointer (some ⟨bZ, i, none⟩)) rfl (by kernel_rfl) (by kernel_rfl) (by kernel_rfl) (fun _ _ _ h => h) (Or.inl ⟨by rfl, ?hq10_1⟩) (by assumption) ?_
                case hq10_1 => intro w hSw; (try dsimp only at hSw); go_simp; try (intro h; exfalso; omega)
                (try simp only [Act.put, List.setIfInBounds_toArray, List.set_cons_zero, List.set_cons_succ])
                refine wpAnyH_ready (rs := [11]) (by kernel_rfl) (by simp) ?_
                refine AllReadyH.cons (o := { dst := none, op := Op.store 44 (Operand.tmp 49) (Operand.tmp 48), type := 0, pos := "ref.go:192", after := #[{ on := 10, ground := Ground.data }, { on := 9, ground := Ground.data }, { on := 9, ground := Ground.chain }, { on := 0, ground := Ground.phase }, { on := 1, ground := Ground.phase }, { on := 2, ground := Ground.phase }, { on := 3, ground := Ground.phase }, { on := 4, ground := Ground.phase }, { on := 5, ground := Ground.phase }, { on := 6, ground := Ground.phase }, { on := 7, ground := Ground.phase }, { on := 8, ground := Ground.phase }, { on := 9, ground := Ground.phase }], guard := none }) rfl (fun K hK => ?_) AllReadyH.nil
                go_simp
                refine hK.out _ _ trivial (fun hHeld => ?_)
                clear hK K
                (try simp only [Act.put, List.setIfInBounds_toArray, List.set_cons_zero, List.set_cons_succ])
                refine wpAnyH_done (by kernel_rfl) ?_ _
                clear cZ9 fZ9
                go_wp2
                go_roundw
                case rel => exact ⟨k + 1, hlk, nxt _, HQ.out.1⟩
                case measure => exact meas hlk
              refine AllReadyH.cons (o := { dst := some 47, op := Op.buildSlice 44 1 #[(0, Operand.tmp 46)], type := 44, pos := "ref.go:192", after := #[{ on := 7, ground := Ground.data }], guard := none }) rfl (fun K hK => ?_) AllReadyH.nil
              go_simp
              obtain ⟨Wa, hWa⟩ : ∃ Wa, Wa = w7.alloc (.cells #[.slice (some ⟨rF, 0, none⟩) n n] 26) := ⟨_, rfl⟩
              rw [← hWa]
              obtain ⟨ua, hua⟩ : ∃ ua, ua = w7.heap.size := ⟨_, rfl⟩
              rw [← hua]
              have cXa : Wa.cell? ⟨bZ, i, none⟩ = some (.slice ou k cu) := by rw [hWa]; exact cellA _ cX7
              have HWA := Lib.hid (And.intro hWa hua)
              clear hWa hua
              refine hK.out _ _ trivial (fun hHeld => ?_)
              clear hK K
              (try simp only [Act.put, List.setIfInBounds_toArray, List.set_cons_zero, List.set_cons_succ])
              refine wpAnyH_ready (rs := [5]) (by kernel_rfl) (by simp) ?_
              refine AllReadyH.cons (o := { dst := some 44, op := Op.load 44 (Operand.tmp 43), type := 44, pos := "ref.go:192", after := #[{ on := 4, ground := Ground.data }], guard := none }) rfl (fun K hK => ?_) AllReadyH.nil
              go_simp
              refine hK.out _ _ trivial (fun hHeld => ?_)
              clear hK K
              (try simp only [Act.put, List.setIfInBounds_toArray, List.set_cons_zero, List.set_cons_succ])
              clear cX cX7 cXa
              refine wpAnyH_ready (rs := [9]) (by kernel_rfl) (by simp) ?_
              refine AllReadyH.cons (o := { dst := some 48, op := Op.call { callee := Callee.builtin Builtin.append, args := #[Operand.tmp 44, Operand.tmp 47], argTypes := #[44, 44] }, type := 44, pos := "ref.go:192", after := #[{ on := 5, ground := Ground.data }, { on := 8, ground := Ground.data }, { on := 7, ground := Ground.chain }], guard := none }) rfl (fun K hK => ?_) AllReadyH.nil
              refine op_append_own_at (.tmp 44) (.tmp 47) 44 rfl wi.heap.size 26 i5 _ 1 24 Try.underlying44 HI5.out.1 HI5.out.2.1 HI5.out.2.2.1 HI5.out.2.2.2 rfl (by decide) (.slice ou k cu) k vs rfl (by rw [HWA.out.1]; exact (show World.ownsRow _ _ _ _ _ _ _ from HX7.out.2.2.1).alloc _) ⟨ua, 0, none⟩ 1 1 [.slice (some ⟨rF, 0, none⟩) n n] rfl rfl (by rw [HWA.out.1, HWA.out.2]; exact new_cells _ [.slice (some ⟨rF, 0, none⟩) n n] _) (fun u hu => by simp at hu; subst hu; rfl) (by unfold maxLen; omega) (by omega) (by rw [HWA.out.1]; have := HX7.out.1.size; simp; omega) ?_
              intro v' w9 hown hg hnil hat
              have hne0 : v' ≠ .slice none 0 0 := fun e => by
                have := (hnil.1 e).2
                omega
              obtain ⟨gA1, cA1, exA1, rfl, -, -, -⟩ := own_bx hown hne0
              have HQ : Go.RowKit.Hid (BkN wi bZ i n us (k + 1) (w9.setCell ⟨bZ, i, none⟩ (.slice (some ⟨gA1, 0, none⟩) (k + 1) cA1)) ∧ Bx w9 bZ 44 (us.set i (.slice ou k cu))) := Lib.hid (by
                obtain ⟨x1, x2, x3, x4, x5, -⟩ := HX7.out
                rw [HWA.out.1] at hg
                have hk9 : Kep (fun b => (Value.slice ou k cu).ownBlock = some b) w7 w9 := ((Kep.refl _ w7).alloc _).grown hg (fun q hq => .inr hq)
                exact ⟨BkN.push x1 x2 x3 x4 x5 hown hg hne0, x2.kep hk9 (fun h => own_ne x3 x2 (fun cs fr e => by cases e) h)⟩)
              have fZ9 := HQ.out.2.frozen i
              have cZ9 := HQ.out.2.cell i
              rw [List.getElem?_set_self hul] at cZ9
              clear hown hg hnil hat hne0
              refine hK.out _ _ trivial (fun hHeld => ?_)
              clear hK K
              (try simp only [Act.put, List.setIfInBounds_toArray, List.set_cons_zero, List.set_cons_succ])
              refine wpAnyH_take (i := 10) (oi := { dst := some 49, op := Op.indexAddr 31 (Operand.tmp 39) (Operand.tmp 40), type := 0, pos := "ref.go:192", after := #[{ on := 0, ground := Ground.data }, { on := 1, ground := Ground.data }, { on := 0, ground := Ground.phase }, { on := 1, ground := Ground.phase }, { on := 2, ground := Ground.phase }, { on := 3, ground := Ground.phase }, { on := 4, ground := Ground.phase }, { on := 5, ground := Ground.phase }, { on := 6, ground := Ground.phase }, { on := 7, ground := Ground.phase }, { on := 8, ground := Ground.phase }, { on := 9, ground := Ground.phase }], guard := none }) (v := .pointer (some ⟨bZ, i, none⟩)) rfl (by kernel_rfl) (by kernel_rfl) (by kernel_rfl) (fun _ _ _ h => h) (Or.inl ⟨by rfl, ?hq10_1⟩) (by assumption) ?_
              case hq10_1 => intro w hSw; (try dsimp only at hSw); go_simp; try (intro h; exfalso; omega)
              (try simp only [Act.put, List.setIfInBounds_toArray, List.set_cons_zero, List.set_cons_succ])
              refine wpAnyH_ready (rs := [11]) (by kernel_rfl) (by simp) ?_
              refine AllReadyH.cons (o := { dst := none, op := Op.store 44 (Operand.tmp 49) (Operand.tmp 48), type := 0, pos := "ref.go:192", after := #[{ on := 10, ground := Ground.data }, { on := 9, ground := Ground.data }, { on := 9, ground := Ground.chain }, { on := 0, ground := Ground.phase }, { on := 1, ground := Ground.phase }, { on := 2, ground := Ground.phase }, { on := 3, ground := Ground.phase }, { on := 4, ground := Ground.phase }, { on := 5, ground := Ground.phase }, { on := 6, ground := Ground.phase }, { on := 7, ground := Ground.phase }, { on := 8, ground := Ground.phase }, { on := 9, ground := Ground.phase }], guard := none }) rfl (fun K hK => ?_) AllReadyH.nil
              go_simp
              refine hK.out _ _ trivial (fun hHeld => ?_)
              clear hK K
              (try simp only [Act.put, List.setIfInBounds_toArray, List.set_cons_zero, List.set_cons_succ])
              refine wpAnyH_done (by kernel_rfl) ?_ _
              clear cZ9 fZ9
              go_wp2
              go_roundw
              case rel => exact ⟨k + 1, hlk, nxt _, HQ.out.1⟩
              case measure => exact meas hlk
          · as_aux_lemma =>
              obtain rfl : k = m + 2 := last hk hlk
              obtain ⟨cB, e3⟩ := HCB.out wq (let ⟨_, _, c1, _⟩ := hbn; c1)
              have HN := Lib.hid hbn
              clear hbn
              go_wp2
              go_roundw
              case rel =>
                obtain ⟨h1, h2, h3, h4, h5, hus, hm, hig⟩ := HZ.out
                exact ⟨i + 1, hlt, nxt _, ZB.push h1 h2 h3 h4 h5 hlt HI.out.2.size HN.out (by omega) (by rw [zro_row hig, hm]), HKB.out _ (let ⟨_, _, c1, _⟩ := HN.out; c1)⟩
              case measure => exact meas hlt
    · as_aux_lemma =>
        obtain rfl : L = i := (last hi hlt).symm
        have hL : L = g.length := HA.out.2.2.2.2.2.1
        have HLL := Lib.hid hL
        clear hL
        go_wp2
        go_loopg [10] (leftB (zroZ g n) + 1) (fun k uch wr => ∃ (ch : Bool) (Z : List (List (List Bool))), uch = .bool ch ∧ BxI g n C Z ∧ (ch = false → BxS g n C Z g.length) ∧ ZB wr wa.heap.size bZ L L Z ∧ Below wa.heap.size wa wr ∧ leftB Z + (if ch then 1 else 0) = k)
        case atStart => exact ⟨true, _, rfl, BxI.start g n C, fun h => by (cases h), HI.out.1, HI.out.2, rfl⟩
        case round =>
          obtain ⟨ch, Z, rfl, hbx, hse, hzb, hbw, hk⟩ := hrel
          have HR := Lib.hid (And.intro hbx (And.intro hse (And.intro hzb (And.intro hbw hk))))
          clear hbx hse hzb hbw hk
          cases ch with
          | true =>
            as_aux_lemma =>
              go_wp2
              go_loopw [10, 11] (fun uch ui wr => ∃ (ch : Bool) (i : Nat) (Z' : List (List (List Bool))), i ≤ L ∧ ui = .int .i64 i ∧ uch = .bool ch ∧ BxI g n C Z' ∧ ZB wr wa.heap.size bZ L L Z' ∧ Below wa.heap.size wa wr ∧ leftB Z' ≤ leftB Z ∧ (ch = true → leftB Z' < leftB Z) ∧ (ch = false → BxS g n C Z' i)) (fun _ ui _ => L - (intOf ui).toNat)
              case atStart => exact ⟨false, 0, Z, Nat.zero_le _, rfl, rfl, HR.out.1, HR.out.2.2.1, HR.out.2.2.2.1, Nat.le_refl _, fun h => by (cases h), fun _ i hi => absurd hi (Nat.not_lt_zero _)⟩
              case round =>
                obtain ⟨ch, i, Z', hi, rfl, rfl, hbx, hzb, hbw, hle, hls, hse⟩ := hrel
                obtain ⟨wj, rfl⟩ : ∃ wj : World, wj = wr := ⟨_, rfl⟩
                have HJ := Lib.hid (And.intro hbx (And.intro hzb (And.intro hbw (And.intro hle (And.intro hls hse)))))
                clear hbx hzb hbw hle hls hse
                by_cases hlt : i < L
                · as_aux_lemma =>
                    have hig : i < g.length := by rw [← HLL.out]; exact hlt
                    have HIG := Lib.hid hig
                    obtain ⟨m, hm⟩ : ∃ m, m = insR g i := ⟨_, rfl⟩
                    have hm1 : m ≤ 1000 := by rw [hm]; exact (HA.out.2.1.2 i).1
                    have HM := Lib.hid hm
                    clear hig hm
                    go_wp2_with fail
                    go_upto_region 16 with (go_at_call 33; refine (HFG.out _ _).mono ?_; rintro e wf ⟨gN, rfl, q1, q2, q3⟩; have HF := Lib.hid (And.intro q1 (And.intro q2 q3)); clear q1 q2 q3)
                    have hbf : Below wa.heap.size wa wf := HJ.out.2.2.1.trans (HF.out.2.2.mono HJ.out.2.2.1.size)
                    have hxf := HW.out.1.below hbf HW.out.1.lt
                    have e0 := hxf.cell 0
                    have e1 := hxf.cell 1
                    have e2 := hxf.cell 2
                    have e3 := hxf.cell 3
                    simp at e0 e1 e2 e3
                    have HTO : Go.RowKit.Hid (Calls Try.prog 23 #[.agg #[nm, pa, lo, .slice oa L cap], .int .i64 (i : Int)] wf fun e w' => ∃ v base, e = .returned v ∧ Below wf.heap.size wf w' ∧ wf.heap.size ≤ base ∧ w'.ownsRow base 3 1 v (tos g i).length (nC (tos g i))) := Lib.hid (by
                      obtain ⟨hB, hs, -, -, hn0, hL, -⟩ := HA.out
                      have hbw : Below w.heap.size w wf := HW.out.2.trans (hbf.mono HW.out.2.size)
                      have h := to_any n0 ⟨nm, pa, lo, oa, cap, g⟩ i HIG.out hs wf (hB.below hbw hn0) (Nat.le_trans hn0 hbw.size)
                      unfold Bv.v Bv.cs at h
                      simp only [← hL] at h
                      exact h)
                    clear hbf hxf
                    go_upto_region 17 with (go_at_call 23; refine HTO.out.mono ?_; clear HTO e0 e1 e2 e3; rintro e wt ⟨v, tbase, rfl, ht1, ht2, ht3⟩)
                    obtain ⟨ot, ct, rfl, hints⟩ := own_parts ht3
                    obtain ⟨nT, hnT⟩ : ∃ k, k = (tos g i).length := ⟨_, rfl⟩
                    rw [← hnT] at hints ⊢
                    have hnT1 : nT ≤ 1000 := by
                      have h1 := List.length_filterMap_le (fun t => if isPl t g.length then some t.toNat else none) (toR g i)
                      have h2 := (HA.out.2.1.2 i).2
                      rw [hnT, tos, tv]
                      exact Nat.le_trans h1 h2
                    have HT := Lib.hid (And.intro hints hnT)
                    have HWT : Go.RowKit.Hid (Bx wt gN 4 (bC (List.replicate n false)) ∧ Below wj.heap.size wj wt ∧ wj.heap.size ≤ gN) := Lib.hid ⟨HF.out.2.1.below ht1 HF.out.2.1.lt, HF.out.2.2.trans (ht1.mono HF.out.2.2.size), HF.out.1⟩
                    have HKW : Go.RowKit.Hid (∀ W, Kep (fun b => b = gN) wt W → Below wj.heap.size wj W) := Lib.hid (fun W h => HWT.out.2.1.trans (h.to_below HWT.out.2.1.size (fun k hk e => by have := HWT.out.2.2; omega)))
                    clear ht1 ht2 ht3 hints hnT HF
                    go_wp2
                    go_loopw [14] (fun u wr => ∃ (k : Nat) (now : List Bool), k ≤ nT ∧ u = .int .i64 k ∧ NbK n Z' ((tos g i).take k) now ∧ Bx wr gN 4 (bC now) ∧ Kep (fun b => b = gN) wt wr) (fun u _ => nT - (intOf u).toNat)
                    case atStart => exact ⟨0, _, Nat.zero_le _, rfl, by rw [List.take_zero]; exact NbK.start n Z', HWT.out.1, Kep.refl _ _⟩
                    case round =>
                      obtain ⟨k, now, hk, rfl, hnw, hbx, hkp⟩ := hrel
                      obtain ⟨wk, rfl⟩ : ∃ wk : World, wk = wr := ⟨_, rfl⟩
                      by_cases hlk : k < nT
                      · as_aux_lemma =>
                          obtain ⟨gt, ext, rfl, hbt⟩ := HT.out.1 (by omega)
                          have hkT : k < (tos g i).length := by rw [← HT.out.2]; exact hlk
                          obtain ⟨p, hp⟩ : ∃ p, p = (tos g i)[k]'hkT := ⟨_, rfl⟩
                          have hpm : p ∈ tos g i := by rw [hp]; exact List.getElem_mem _
                          have hpg := tos_lt hpm
                          have hpL : p < L := by rw [HLL.out]; exact hpg
                          have hct := hbt.cell k
                          rw [nC_at hkT, ← hp] at hct
                          have HCT : Go.RowKit.Hid (∀ W, Kep (fun b => b = gN) wt W → W.cell? ⟨gt, k, none⟩ = some (.int .i64 (p : Int))) := Lib.hid (fun W h => (World.cell?_of_block (a := ⟨gt, k, none⟩) (h.same gt hbt.lt (fun e => bx_ne hbt HWT.out.1 (by decide) e))).trans hct)
                          have HP := Lib.hid (And.intro hp (And.intro hpg hkT))
                          have HK := Lib.hid (And.intro hnw (And.intro hbx hkp))
                          clear hbt hp hpm hpg hct hnw hbx hkp
                          go_wp2
                          go_loopw [15] (fun u wr => ∃ (j : Nat) (now' : List Bool), j ≤ n ∧ u = .int .i64 j ∧ now'.length = n ∧ (∀ j', j' < n → now'[j']?.getD false = if j' < j then (now[j']?.getD false || valZ Z' p 0 j') else now[j']?.getD false) ∧ Bx wr gN 4 (bC now') ∧ Kep (fun b => b = gN) wt wr) (fun u _ => n - (intOf u).toNat)
                          case atStart => exact ⟨0, now, Nat.zero_le _, rfl, HK.out.1.1, fun j' _ => by rw [if_neg (Nat.not_lt_zero _)], HK.out.2.1, HK.out.2.2⟩
                          case round =>
                            obtain ⟨j, now', hj, rfl, hcl, hcj, hbx, hkp⟩ := hrel
                            have HX := Lib.hid (And.intro hcl (And.intro hcj (And.intro hbx hkp)))
                            by_cases hlj : j < n
                            · as_aux_lemma =>
                                have cT := HCT.out _ hkp
                                obtain ⟨gp, cp, hhd, -, hst, -⟩ := (HJ.out.2.1.below (HKW.out _ hkp)).at hpL (by rw [HJ.out.1.len, HLL.out])
                                rw [HJ.out.1.cnt p HP.out.2.1] at hhd hst
                                obtain ⟨rp, cr, exr, hs1, -, hs2⟩ := hst 0 (by omega)
                                rw [HJ.out.1.row p 0 HP.out.2.1 (by omega)] at hs1
                                have hs3 := hs2.cell j
                                rw [bC_at (by rw [HJ.out.1.row p 0 HP.out.2.1 (by omega)]; exact hlj)] at hs3
                                obtain ⟨mp, hmp⟩ : ∃ k, k = insR g p + 2 := ⟨_, rfl⟩
                                have hmp1 : 0 < mp ∧ mp ≤ 1002 := by
                                  have := (HA.out.2.1.2 p).1
                                  simp only at this
                                  omega
                                rw [← hmp] at hhd
                                have hcy := hbx.cell j
                                rw [bC_get (by omega)] at hcy
                                have hfy := hbx.frozen j
                                obtain ⟨x, hx⟩ : ∃ x, x = now'[j]?.getD false := ⟨_, rfl⟩
                                obtain ⟨y, hy⟩ : ∃ y, y = (stateZ Z' p 0)[j]?.getD false := ⟨_, rfl⟩
                                rw [← hx] at hcy
                                rw [← hy] at hs3
                                obtain ⟨hmp0, hmp2⟩ := hmp1
                                have HXY := Lib.hid (And.intro hx (And.intro hy hmp))
                                clear hx hy hmp hcl hcj hbx hkp hst hs2
                                cases x with
                                | true =>
                                  go_wp2
                                  go_roundw
                                  case rel =>
                                    obtain ⟨hcl, hcj, hbx, hkp⟩ := HX.out
                                    obtain ⟨hx, hy, -⟩ := HXY.out
                                    have h1 := hbx.set j (.bool (true))
                                    rw [bC_set] at h1
                                    refine ⟨j + 1, now'.set j (true), hlj, nxt _, by simp [hcl], fun j' hj' => ?_, h1, hkp.setCell (p := ⟨gN, j, none⟩) (.inr rfl) _⟩
                                    by_cases e : j = j'
                                    · subst e
                                      rw [List.getElem?_set_self (by omega), if_pos (Nat.lt_succ_self _)]
                                      have h2 := hcj j hj'
                                      rw [if_neg (Nat.lt_irrefl _), ← hx] at h2
                                      rw [← h2, show valZ Z' p 0 j = y from hy.symm]
                                      rfl
                                    · rw [List.getElem?_set_ne e, hcj j' hj']
                                      by_cases e2 : j' < j
                                      · rw [if_pos e2, if_pos (by omega)]
                                      · rw [if_neg e2, if_neg (by omega)]
                                  case measure => exact meas hlj
                                | false =>
                                  go_wp2
                                  go_roundw
                                  case rel =>
                                    obtain ⟨hcl, hcj, hbx, hkp⟩ := HX.out
                                    obtain ⟨hx, hy, -⟩ := HXY.out
                                    have h1 := hbx.set j (.bool (y))
                                    rw [bC_set] at h1
                                    refine ⟨j + 1, now'.set j (y), hlj, nxt _, by simp [hcl], fun j' hj' => ?_, h1, hkp.setCell (p := ⟨gN, j, none⟩) (.inr rfl) _⟩
                                    by_cases e : j = j'
                                    · subst e
                                      rw [List.getElem?_set_self (by omega), if_pos (Nat.lt_succ_self _)]
                                      have h2 := hcj j hj'
                                      rw [if_neg (Nat.lt_irrefl _), ← hx] at h2
                                      rw [← h2, show valZ Z' p 0 j = y from hy.symm]
                                      rfl
                                    · rw [List.getElem?_set_ne e, hcj j' hj']
                                      by_cases e2 : j' < j
                                      · rw [if_pos e2, if_pos (by omega)]
                                      · rw [if_neg e2, if_neg (by omega)]
                                  case measure => exact meas hlj
                            · as_aux_lemma =>
                                obtain rfl : n = j := (last hj hlj).symm
                                clear hcl hcj hbx hkp
                                go_wp2
                                go_roundw
                                case rel =>
                                  obtain ⟨hcl, hcj, hbx, hkp⟩ := HX.out
                                  refine ⟨k + 1, now', hlk, nxt _, ?_, hbx, hkp⟩
                                  rw [List.take_add_one, List.getElem?_eq_getElem HP.out.2.2, ← HP.out.1]
                                  exact HK.out.1.step hcl (fun j' hj' => by rw [hcj j' hj', if_pos hj'])
                                case measure => exact meas hlk
                      · as_aux_lemma =>
                          obtain rfl : nT = k := (last hk hlk).symm
                          have HNB : Go.RowKit.Hid (NbAt g n Z' i now ∧ Bx wk gN 4 (bC now) ∧ Below wj.heap.size wj wk) := Lib.hid (by
                            rw [HT.out.2, List.take_length] at hnw
                            exact ⟨hnw, hbx, HKW.out _ hkp⟩)
                          clear hnw hbx hkp
                          obtain ⟨gi, ci, hhd, -, -, -⟩ := (HJ.out.2.1.below HNB.out.2.2).at hlt (by rw [HJ.out.1.len, HLL.out])
                          rw [HJ.out.1.cnt i HIG.out, ← HM.out] at hhd
                          go_wp2
                          clear hhd
                          go_loopw [10, 12, 16] (fun uch un uk wr => ∃ (q : Nat) (c2 : Bool), q ≤ m + 2 ∧ uk = .int .i64 ((q : Int) - 1) ∧ uch = .bool c2 ∧ BRow wr un (bkF g n C i q now) ∧ ZB wr wa.heap.size bZ L L (Z'.set i (mixR g n C Z' i now q)) ∧ Below wa.heap.size wa wr ∧ (c2 = true ↔ (ch = true ∨ mixR g n C Z' i now q ≠ rowZ Z' i))) (fun _ _ uk _ => (intOf uk + 1).toNat)
                          case atStart =>
                            have hcn := HJ.out.1.cnt i HIG.out
                            have hiZ : i < Z'.length := by rw [HJ.out.1.len]; exact HIG.out
                            refine ⟨m + 2, ch, Nat.le_refl _, ?_, rfl, ?_, ?_, ?_, ?_⟩
                            · first | rfl | (congr 1; omega) | (simp; omega)
                            · have e : bkF g n C i (m + 2) now = now := by
                                rw [bkF, show insR g i + 1 - (m + 2) = 0 by rw [HM.out]; omega, List.take_zero]
                                rfl
                              rw [e]
                              exact ⟨gN, n, [], by rw [HNB.out.1.1], by simpa using HNB.out.2.1⟩
                            · rw [HM.out, mixR_all hcn, setZ_row hiZ]
                              exact HJ.out.2.1.below HNB.out.2.2
                            · exact HJ.out.2.2.1.trans (HNB.out.2.2.mono HJ.out.2.2.1.size)
                            · rw [HM.out, mixR_all hcn]
                              simp
                          case round =>
                            obtain ⟨q, c2, hq, rfl, rfl, hbr, hzb, hbw, hch⟩ := hrel
                            obtain ⟨wq, rfl⟩ : ∃ wq : World, wq = wr := ⟨_, rfl⟩
                            have HQ := Lib.hid (And.intro hbr (And.intro hzb (And.intro hbw hch)))
                            clear hbr hzb hbw hch
                            by_cases hq0 : q = 0
                            · as_aux_lemma =>
                                subst hq0
                                go_wp2
                                go_roundw
                                case rel =>
                                  obtain ⟨hbr, hzb, hbw, hch⟩ := HQ.out
                                  rw [mixR_zero] at hzb hch
                                  have hst := HJ.out.1.step HIG.out HNB.out.1
                                  have hls := HJ.out.1.less HIG.out HNB.out.1
                                  refine ⟨c2, i + 1, Z'.set i (bkR g n C i now), hlt, nxt _, rfl, hst, hzb, hbw, Nat.le_trans hls.1 HJ.out.2.2.2.1, fun h => ?_, fun h => ?_⟩
                                  · rcases hch.1 h with h1 | h1
                                    · exact Nat.lt_of_le_of_lt hls.1 (HJ.out.2.2.2.2.1 h1)
                                    · exact Nat.lt_of_lt_of_le (hls.2 h1) HJ.out.2.2.2.1
                                  · have h2 : ¬ (ch = true ∨ bkR g n C i now ≠ rowZ Z' i) := fun x => by
                                      rw [hch.2 x] at h
                                      cases h
                                    have h3 : ch = false := by
                                      cases hc : ch
                                      · rfl
                                      · exact absurd (Or.inl hc) h2
                                    have h4 : bkR g n C i now = rowZ Z' i := Classical.byContradiction fun x => h2 (.inr x)
                                    have hiZ : i < Z'.length := by rw [HJ.out.1.len]; exact HIG.out
                                    rw [h4, setZ_row hiZ]
                                    intro k hk hkg
                                    by_cases e : k = i
                                    · subst e
                                      exact ⟨now, HNB.out.1, h4.symm⟩
                                    · exact HJ.out.2.2.2.2.2 h3 k (by omega) hkg
                                case measure => exact meas hlt
                            · as_aux_lemma =>
                                obtain ⟨q, rfl⟩ : ∃ q', q = q' + 1 := ⟨q - 1, by omega⟩
                                rw [show (((q + 1 : Nat) : Int) - 1) = (q : Int) by omega]
                                have hqm : q < m + 2 := by omega
                                have hqi : q < insR g i + 2 := by rw [← HM.out]; exact hqm
                                have hZL : (Z'.set i (mixR g n C Z' i now (q + 1))).length = L := by rw [List.length_set, HJ.out.1.len, HLL.out]
                                have hiZ : i < Z'.length := by rw [HJ.out.1.len]; exact HIG.out
                                have hrz : rowZ (Z'.set i (mixR g n C Z' i now (q + 1))) i = mixR g n C Z' i now (q + 1) := by rw [setZ hiZ, if_pos rfl]
                                have hsz : stateZ (Z'.set i (mixR g n C Z' i now (q + 1))) i q = stateZ Z' i q := by rw [stateZ, hrz, mixR_at hqi, if_pos (Nat.lt_succ_self _)]; rfl
                                have hsl : (stateZ Z' i q).length = n := HJ.out.1.row i q HIG.out hqi
                                have HZF : Go.RowKit.Hid (∀ W, Below wq.heap.size wq W → ∃ gi ci r cr ex, W.cell? ⟨bZ, i, none⟩ = some (.slice (some ⟨gi, 0, none⟩) (m + 2) ci) ∧ wa.heap.size ≤ gi ∧ W.cell? ⟨gi, q, none⟩ = some (.slice (some ⟨r, 0, none⟩) n cr) ∧ W.frozen? ⟨gi, q, none⟩ = false ∧ Bx W r 4 (bC (stateZ Z' i q) ++ ex) ∧
                                    ∀ (v : Value), BRow W v (bkF g n C i q now) → ZB (W.setCell ⟨gi, q, none⟩ v) wa.heap.size bZ L L (Z'.set i (mixR g n C Z' i now q)) ∧ ∀ (x : Value) (y : List Bool), BRow W x y → BRow (W.setCell ⟨gi, q, none⟩ v) x y) := Lib.hid (fun W hW => by
                                  obtain ⟨gi, ci, h1, h2, h3, h4⟩ := (HQ.out.2.1.below hW).at hlt hZL
                                  rw [hrz, mixR_len, ← HM.out] at h1 h3
                                  obtain ⟨r, cr, ex, b1, b2, b3⟩ := h3 q hqm
                                  rw [hsz] at b1 b3
                                  rw [hsl] at b1
                                  refine ⟨gi, ci, r, cr, ex, h1, h2, b1, b2, b3, fun v hv => ?_⟩
                                  obtain ⟨k1, k2⟩ := h4 q v _ (by rw [hrz, mixR_len]; exact hqi) hv
                                  rw [setZ_set, hrz, mixR_set hqi] at k1
                                  exact ⟨k1, k2⟩)
                                have HFA := Lib.hid (And.intro hqi (And.intro hsl hiZ))
                                clear hqi hZL hiZ hrz hsz hsl
                                obtain ⟨gi, ci, r, cr, ex, z1, -⟩ := HZF.out wq (Below.refl _ _)
                                obtain ⟨zb, hzb⟩ : ∃ b, b = decide (q < m + 1) := ⟨_, rfl⟩
                                have HZB := Lib.hid hzb
                                go_upto_region 27 with fail
                                go_cut [112] (fun s112 wc => s112 = .bool zb ∧ wc = wq)
                                case first =>
                                  subst hzb
                                  by_cases h0 : q < m + 1
                                  · go_wp2_with fail
                                    go_meet
                                    exact ⟨by (simp [h0]; try omega), rfl⟩
                                  · go_wp2_with fail
                                    go_meet
                                    exact ⟨by (simp [h0]; try omega), rfl⟩
                                case rest =>
                                obtain ⟨hs112, hwc⟩ := hcut
                                obtain rfl : wq = wc := hwc.symm
                                subst hs112
                                clear hzb z1
                                go_upto_if 112 with fail
                                go_cut [12] (fun u12 wc => BRow wc u12 (bkF g n C i q now) ∧ Below wq.heap.size wq wc)
                                case first =>
                                  cases zb with
                                  | true =>
                                    have hqq : q < m + 1 := of_decide_eq_true HZB.out.symm
                                    have HST : Go.RowKit.Hid (Calls Try.prog 39 #[u12, .slice oc kC capC, .int .i64 (i : Int), .int .i64 (q : Int)] wq fun e w' => ∃ v', e = .returned v' ∧ NBR wq w' v' (bkF g n C i q now) ∧ Below wq.heap.size wq w') := Lib.hid (by
                                      obtain ⟨-, -, hC, hcs, hn0, -, hnC⟩ := HA.out
                                      have hbw : Below w.heap.size w wq := HW.out.2.trans (HQ.out.2.2.1.mono HW.out.2.size)
                                      have h := rbefore_any n0 oc capC C i q u12 n _ wq (hC.below hbw hn0) hcs.2 (by omega) (Nat.le_trans hn0 hbw.size) hn1 (by rw [bkF_len, HNB.out.1.1]) HQ.out.1
                                      have hok : okS g (i : Int) (q : Int) = true := by
                                        have h1 := HM.out
                                        have h2 := HIG.out
                                        simp [okS, isPl]
                                        omega
                                      rw [aftF_step hok, ← hnC, ← bkF_step _ _ _ (by rw [← HM.out]; exact hqq)] at h
                                      exact h)
                                    clear hqq
                                    go_wp2_with (go_at_call 39; refine HST.out.mono ?_; clear HST; rintro e wc ⟨v', rfl, hnb, hbc⟩; have HG := Lib.hid (And.intro hnb hbc); clear hnb hbc)
                                    go_meet
                                    exact ⟨HG.out.1.brow, HG.out.2⟩
                                  | false =>
                                    go_wp2_with fail
                                    go_meet
                                    refine ⟨?_, Below.refl _ _⟩
                                    have hqq : ¬ q < m + 1 := of_decide_eq_false HZB.out.symm
                                    have e1 : q = m + 1 := by omega
                                    have e2 : bkF g n C i (q + 1) now = bkF g n C i q now := by
                                      rw [bkF, bkF, show insR g i + 1 - (q + 1) = 0 by rw [← HM.out]; omega, show insR g i + 1 - q = 0 by rw [← HM.out]; omega]
                                    rw [← e2]
                                    exact HQ.out.1
                                case rest =>
                                obtain ⟨hbr, hbc⟩ := hcut
                                obtain ⟨wd, rfl⟩ : ∃ wd : World, wd = wc := ⟨_, rfl⟩
                                obtain ⟨gB, cB, exB, hu, hbB⟩ := id hbr
                                rw [bkF_len, HNB.out.1.1] at hu
                                subst hu
                                obtain ⟨gi, ci, r, cr, ex, z1, z2, z3, z4, z5, z6⟩ := HZF.out wd hbc
                                obtain ⟨d, hd⟩ : ∃ b, b = decide (bkF g n C i q now = stateZ Z' i q) := ⟨_, rfl⟩
                                have HSA : Go.RowKit.Hid (Calls Try.prog 26 #[.slice (some ⟨gB, 0, none⟩) n cB, .slice (some ⟨r, 0, none⟩) n cr] wd fun e w' => e = .returned (.bool d) ∧ Below wd.heap.size wd w') := Lib.hid (by
                                  have hsl := HFA.out.2.1
                                  have h := rsame_any (.slice (some ⟨gB, 0, none⟩) n cB) (.slice (some ⟨r, 0, none⟩) n cr) (bkF g n C i q now) (stateZ Z' i q) wd (BRow.rd hbr) (BRow.rd ⟨r, cr, ex, by rw [hsl], z5⟩) (by rw [bkF_len, HNB.out.1.1, hsl]) (by rw [bkF_len, HNB.out.1.1]; exact hn1)
                                  rw [← hd] at h
                                  exact h)
                                obtain ⟨z, hz⟩ : ∃ z, z = !d := ⟨_, rfl⟩
                                have HD := Lib.hid (And.intro hbr (And.intro hbc (And.intro hd hz)))
                                clear hbr hbc hd hz hbB z2 z4 z5 z6
                                go_upto_region 29 with fail
                                go_cut [127] (fun s127 wc => s127 = .bool z ∧ Below wd.heap.size wd wc)
                                case first =>
                                  go_wp2_with (go_at_call 26; refine HSA.out.mono ?_; clear HSA; rintro e wx ⟨rfl, hbx⟩; have HBX := Lib.hid hbx; clear hbx)
                                  go_meet
                                  exact ⟨by rw [HD.out.2.2.2], HBX.out⟩
                                case rest =>
                                obtain ⟨hs127, hbc⟩ := hcut
                                obtain ⟨we, rfl⟩ : ∃ we : World, we = wc := ⟨_, rfl⟩
                                subst hs127
                                have HWE := Lib.hid hbc
                                clear hbc HSA z1 z3
                                go_upto_if 127 with fail
                                go_cut [10] (fun s10 wc => s10 = .bool (c2 || z) ∧ wc = we)
                                case first =>
                                  cases z with
                                  | true =>
                                    go_wp2_with fail
                                    go_meet
                                    exact ⟨by simp, rfl⟩
                                  | false =>
                                    go_wp2_with fail
                                    go_meet
                                    exact ⟨by simp, rfl⟩
                                case rest =>
                                obtain ⟨hs10, hwc⟩ := hcut
                                obtain rfl : we = wc := hwc.symm
                                subst hs10
                                obtain ⟨cz, hcz⟩ : ∃ b, b = (c2 || z) := ⟨_, rfl⟩
                                rw [← hcz]
                                have HCZ := Lib.hid hcz
                                clear hcz
                                obtain ⟨gi2, ci2, r2, cr2, ex2, z1, z2, z3, z4, -, z6⟩ := HZF.out we (HD.out.2.1.trans (HWE.out.mono HD.out.2.1.size))
                                have HS6 := Lib.hid (And.intro z2 z6)
                                clear z2 z6
                                go_wp2
                                go_roundw
                                case rel =>
                                  obtain ⟨hbr, hbc, hd, hz⟩ := HD.out
                                  have hbw := HQ.out.2.2.1
                                  have hch := HQ.out.2.2.2
                                  have hbre := hbr.below HWE.out
                                  obtain ⟨k1, k2⟩ := HS6.out.2 _ hbre
                                  have hbe : Below wa.heap.size wa we := hbw.trans ((hbc.trans (HWE.out.mono hbc.size)).mono hbw.size)
                                  refine ⟨q, cz, by omega, by first | rfl | (congr 1; omega) | simp, rfl, k2 _ _ hbre, k1, hbe.setCell (p := ⟨gi2, q, none⟩) HS6.out.1 _, ?_⟩
                                  rw [HCZ.out, Bool.or_eq_true, hch, hz]
                                  have hmx := mixR_eq (g := g) (n := n) (C := C) (now := now) (HJ.out.1.cnt i HIG.out) HFA.out.1
                                  have hdz : (!d) = true ↔ ¬ bkF g n C i q now = stateZ Z' i q := by
                                    rw [hd]
                                    simp
                                  rw [hdz, Ne, Ne, hmx]
                                  constructor
                                  · rintro ((a | a) | a)
                                    · exact .inl a
                                    · exact .inr (fun x => a x.1)
                                    · exact .inr (fun x => a x.2)
                                  · rintro (a | a)
                                    · exact .inl (.inl a)
                                    · by_cases hx : mixR g n C Z' i now (q + 1) = rowZ Z' i
                                      · exact .inr (fun y => a ⟨hx, y⟩)
                                      · exact .inl (.inr hx)
                                case measure =>
                                  simp [intOf]
                                  try omega
                · as_aux_lemma =>
                    obtain rfl : L = i := (last hi hlt).symm
                    go_wp2
                    go_roundg (leftB Z' + (if ch then 1 else 0))
                    case measure =>
                      have h1 := HR.out.2.2.2.2
                      simp only [if_true] at h1
                      have h2 := HJ.out.2.2.2.1
                      cases ch with
                      | true =>
                        have h3 := HJ.out.2.2.2.2.1 rfl
                        rw [if_pos rfl]
                        omega
                      | false =>
                        rw [if_neg (by simp)]
                        omega
                    case rel =>
                      obtain ⟨hbx, hzb, hbw, hle, hls, hse⟩ := HJ.out
                      exact ⟨ch, Z', rfl, hbx, by rw [← HLL.out]; exact hse, hzb, hbw, rfl⟩
          | false =>
            as_aux_lemma =>
              go_wp2
              go_ret
              obtain ⟨hbx, hse, hzb, hbw, -⟩ := HR.out
              exact ⟨_, Z, rfl, HW.out.2.trans (hbw.mono HW.out.2.size), hzb.rd (by rw [hbx.len, HLL.out]), hbx.bks (hse (by first | rfl | trivial))⟩
end Go.Proofs.Ytfpdecjlfnambaa
