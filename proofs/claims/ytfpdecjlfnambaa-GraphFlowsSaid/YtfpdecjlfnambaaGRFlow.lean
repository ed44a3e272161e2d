/-
  The document's Flow. Conditions: the body, the flags and the changes lie in the heap, and are small.
-/
import Derived.Test.YtfpdecjlfnambaaGDocM
import Derived.Test.YtfpdecjlfnambaaGRPreds
import Derived.Test.YtfpdecjlfnambaaGRReach
namespace Go.Proofs.Ytfpdecjlfnambaa
open Go Go.RowKit

/-- A row of rows of flags. -/
def SpR (w : World) (b : Nat) (A : List (List Bool)) : Prop := ∃ us, Bx w b 26 us ∧ us.length = A.length ∧ ∀ i, i < A.length → ∃ u, us[i]? = some u ∧ BRow w u (rowA A i)
theorem SpR.below {w w' : World} {b : Nat} {A : List (List Bool)} (h : SpR w b A) (hb : Below w.heap.size w w') : SpR w' b A := by
  obtain ⟨us, h1, h2, h3⟩ := h
  exact ⟨us, h1.below hb h1.lt, h2, fun i hi => let ⟨u, a1, a2⟩ := h3 i hi; ⟨u, a1, a2.below hb⟩⟩
theorem BRow.set {w : World} {v : Value} {st : List Bool} (h : BRow w v st) {b i : Nat} {us : List Value} {u : Value} (hb : Bx w b 26 us) : BRow (w.setCell ⟨b, i, none⟩ u) v st := by
  obtain ⟨r, cap, ex, h1, h2⟩ := h
  exact ⟨r, cap, ex, h1, h2.far (fun e => bx_ne h2 hb (by decide) e.symm) _⟩
theorem SpR.set {w : World} {b i : Nat} {A : List (List Bool)} {u : Value} {r : List Bool} (h : SpR w b A) (hi : i < A.length) (hu : BRow w u r) : SpR (w.setCell ⟨b, i, none⟩ u) b (A.set i r) := by
  obtain ⟨us, h1, h2, h3⟩ := h
  refine ⟨us.set i u, h1.set i u, by rw [List.length_set, List.length_set]; exact h2, fun k hk => ?_⟩
  rw [List.length_set] at hk
  rw [rowA, set_getD hi]
  by_cases e : i = k
  · subst e
    exact ⟨u, List.getElem?_set_self (by omega), by rw [if_pos rfl]; exact hu.set h1⟩
  · obtain ⟨v, a1, a2⟩ := h3 k hk
    exact ⟨v, by rw [List.getElem?_set_ne e]; exact a1, by rw [if_neg e]; exact a2.set h1⟩
theorem SpR.far {w : World} {b b' i : Nat} {A A' : List (List Bool)} {u : Value} (h : SpR w b A) (h' : SpR w b' A') (hne : b' ≠ b) : SpR (w.setCell ⟨b', i, none⟩ u) b A := by
  obtain ⟨us, h1, h2, h3⟩ := h
  obtain ⟨us', k1, -⟩ := h'
  exact ⟨us, h1.far hne _, h2, fun k hk => let ⟨v, a1, a2⟩ := h3 k hk; ⟨v, a1, a2.set k1⟩⟩
theorem SpR.at {w : World} {b i : Nat} {A : List (List Bool)} (h : SpR w b A) (hi : i < A.length) : ∃ r c ex, w.cell? ⟨b, i, none⟩ = some (.slice (some ⟨r, 0, none⟩) (rowA A i).length c) ∧ w.frozen? ⟨b, i, none⟩ = false ∧ Bx w r 4 (bC (rowA A i) ++ ex) := by
  obtain ⟨us, h1, h2, h3⟩ := h
  obtain ⟨u, a1, r, c, ex, rfl, a2⟩ := h3 i hi
  exact ⟨r, c, ex, by rw [h1.cell]; exact a1, h1.frozen i, a2⟩
theorem SpR.new {w : World} {b L : Nat} {us : List Value} {r : List Bool} (h1 : Bx w b 26 us) (h2 : us.length = L) (h3 : ∀ i, i < L → ∃ u, us[i]? = some u ∧ BRow w u r) : SpR w b (List.replicate L r) := by
  refine ⟨us, h1, by rw [List.length_replicate]; exact h2, fun i hi => ?_⟩
  rw [List.length_replicate] at hi
  rw [rowA, List.getElem?_replicate, if_pos hi]
  exact h3 i hi
/-- The rows that are made, up to a block. -/
def SpN (w : World) (b L k : Nat) (r : List Bool) : Prop := ∃ us, Bx w b 26 us ∧ us.length = L ∧ ∀ i, i < k → ∃ u, us[i]? = some u ∧ BRow w u r
theorem SpN.below {w w' : World} {b L k : Nat} {r : List Bool} (h : SpN w b L k r) (hb : Below w.heap.size w w') : SpN w' b L k r := by
  obtain ⟨us, h1, h2, h3⟩ := h
  exact ⟨us, h1.below hb h1.lt, h2, fun i hi => let ⟨u, a1, a2⟩ := h3 i hi; ⟨u, a1, a2.below hb⟩⟩
theorem SpN.set {w : World} {b L k : Nat} {r : List Bool} {u : Value} (h : SpN w b L k r) (hk : k < L) (hu : BRow w u r) : SpN (w.setCell ⟨b, k, none⟩ u) b L (k + 1) r := by
  obtain ⟨us, h1, h2, h3⟩ := h
  refine ⟨us.set k u, h1.set k u, by rw [List.length_set]; exact h2, fun i hi => ?_⟩
  by_cases e : k = i
  · subst e
    exact ⟨u, List.getElem?_set_self (by omega), hu.set h1⟩
  · obtain ⟨v, a1, a2⟩ := h3 i (by omega)
    exact ⟨v, by rw [List.getElem?_set_ne e]; exact a1, a2.set h1⟩
theorem SpN.far {w : World} {b b' L L' k k' i : Nat} {r r' : List Bool} {u : Value} (h : SpN w b L k r) (h' : SpN w b' L' k' r') (hne : b' ≠ b) : SpN (w.setCell ⟨b', i, none⟩ u) b L k r := by
  obtain ⟨us, h1, h2, h3⟩ := h
  obtain ⟨us', k1, -⟩ := h'
  exact ⟨us, h1.far hne _, h2, fun i hi => let ⟨v, a1, a2⟩ := h3 i hi; ⟨v, a1, a2.set k1⟩⟩
theorem SpN.frz {w : World} {b L k : Nat} {r : List Bool} (h : SpN w b L k r) (hk : k < L) : w.frozen? ⟨b, k, none⟩ = false ∧ ∃ v, w.cell? ⟨b, k, none⟩ = some v := by
  obtain ⟨us, h1, h2, h3⟩ := h
  refine ⟨h1.frozen k, us[k]'(by omega), ?_⟩
  rw [h1.cell, List.getElem?_eq_getElem]
theorem make_brows (n : Nat) (h : n ≤ 1000) (w : World) : (Instr.makeSlice 44 (.int .i64 (n : Int)) (.int .i64 (n : Int))).run Try.prog w = .ok (.slice (some ⟨w.heap.size, 0, none⟩) n n) (w.alloc (.cells (List.replicate n (.slice none 0 0)).toArray 26)) := by
  rw [run_make_row' 44 26 (.slice none 0 0) 24 Try.underlying44 (by kernel_rfl) rfl .i64 .i64 n (by omega) (by omega) w, made_one]
theorem prdK_len9 (g : Gb) (k x : Nat) : (prdK g k x).length ≤ k := by
  have h := List.length_filter_le (fun i => decide (x ∈ tos g i)) (List.range k)
  rw [List.length_range] at h
  exact h
/-- A row of Preds, as it is read. -/
theorem PdAt.read9 {w : World} {base pr : Nat} {vs : List Value} {P : Nat → List Nat} (h : PdAt w base pr vs P) {i : Nat} (hi : i < vs.length) : ∃ ou cu, w.cell? ⟨pr, i, none⟩ = some (.slice ou (P i).length cu) ∧ ∀ j (hj : j < (P i).length), ∃ gu, ou = some ⟨gu, 0, none⟩ ∧ w.cell? ⟨gu, j, none⟩ = some (.int .i64 ((P i)[j] : Int)) := by
  obtain ⟨v, h1, h2⟩ := h.own i hi
  obtain ⟨ou, cu, rfl, h3⟩ := own_parts h2
  refine ⟨ou, cu, by rw [h.rows.cell]; exact h1, fun j hj => ?_⟩
  obtain ⟨gu, ex, e, hb⟩ := h3 (by omega)
  exact ⟨gu, e, by rw [hb.cell]; exact nC_at hj⟩
/-- What comes to a block from some of those that go to it. -/
def NwK (g : Gb) (n : Nat) (st : List Bool) (every : Bool) (O : List (List Bool)) (i : Nat) (P : List Nat) (now : List Bool) : Prop :=
  now.length = n ∧ ∀ j, j < n → (now[j]?.getD false = (!every) ↔ ((if i = 0 then iniF st n else List.replicate n every)[j]?.getD false = (!every) ∨ ∃ p ∈ P, Rch g p ∧ vA O p j = (!every)))
def cmbF (every a b : Bool) : Bool := if every then a && b else a || b
theorem NwK.start (g : Gb) (n : Nat) (st : List Bool) (every : Bool) (O : List (List Bool)) (i : Nat) : NwK g n st every O i [] (if i = 0 then iniF st n else List.replicate n every) :=
  ⟨by split <;> simp [iniF_len], fun j hj => by simp⟩
theorem NwK.step {g : Gb} {n : Nat} {st : List Bool} {every : Bool} {O : List (List Bool)} {i p : Nat} {P : List Nat} {now now' : List Bool} (h : NwK g n st every O i P now) (hl : now'.length = n) (hv : Rch g p → ∀ j, j < n → now'[j]?.getD false = cmbF every (now[j]?.getD false) (vA O p j)) (hn : ¬ Rch g p → ∀ j, j < n → now'[j]?.getD false = now[j]?.getD false) : NwK g n st every O i (P ++ [p]) now' := by
  refine ⟨hl, fun j hj => ?_⟩
  by_cases hp : Rch g p
  · rw [hv hp j hj]
    have e : cmbF every (now[j]?.getD false) (vA O p j) = (!every) ↔ (now[j]?.getD false = (!every) ∨ vA O p j = (!every)) := by
      unfold cmbF
      cases every <;> cases now[j]?.getD false <;> cases vA O p j <;> simp
    rw [e, h.2 j hj]
    constructor
    · rintro ((a | ⟨q, b, c⟩) | a)
      · exact .inl a
      · exact .inr ⟨q, List.mem_append_left _ b, c⟩
      · exact .inr ⟨p, by simp, hp, a⟩
    · rintro (a | ⟨q, b, c, d⟩)
      · exact .inl (.inl a)
      · rw [List.mem_append, List.mem_singleton] at b
        rcases b with b | rfl
        · exact .inl (.inr ⟨q, b, c, d⟩)
        · exact .inr d
  · rw [hn hp j hj, h.2 j hj]
    constructor
    · rintro (a | ⟨q, b, c⟩)
      · exact .inl a
      · exact .inr ⟨q, List.mem_append_left _ b, c⟩
    · rintro (a | ⟨q, b, c, d⟩)
      · exact .inl a
      · rw [List.mem_append, List.mem_singleton] at b
        rcases b with b | rfl
        · exact .inr ⟨q, b, c, d⟩
        · exact absurd c hp
theorem NwK.at {g : Gb} {n : Nat} {st : List Bool} {every : Bool} {O : List (List Bool)} {i : Nat} {now : List Bool} (h : NwK g n st every O i (prdK g g.length i) now) : NwAt g n st every O i now := by
  refine ⟨h.1, fun j hj => ?_⟩
  rw [h.2 j hj, NwP]
  constructor
  · rintro (a | ⟨q, b, c, d⟩)
    · exact .inl a
    · exact .inr ⟨q, c, (prd_mem.1 b).2, d⟩
  · rintro (a | ⟨q, b, c, d⟩)
    · exact .inl a
    · exact .inr ⟨q, prd_mem.2 ⟨rch_lt b, c⟩, b, d⟩
theorem set_same {A : List (List Bool)} {i : Nat} {r : List Bool} (hi : i < A.length) (h : r = rowA A i) : A.set i r = A := by
  refine List.ext_getElem (by simp) fun k h1 h2 => ?_
  rw [List.getElem_set]
  split
  · rename_i e
    subst e
    rw [h, rowA, List.getElem?_eq_getElem hi]
    rfl
  · rfl

/-- The answer's rows, up to a block. -/
def ZSp (w : World) (b : Nat) (V : List Bool) (S : Nat → List (List Bool)) (k : Nat) : Prop :=
  ∃ us, Bx w b 44 us ∧ us.length = V.length ∧ ∀ i, i < V.length → ∃ u, us[i]? = some u ∧ ((i < k ∧ bitF V i = true) → RRow w u (S i)) ∧ (¬ (i < k ∧ bitF V i = true) → u = .slice none 0 0)
theorem ZSp.rd {w : World} {b : Nat} {V : List Bool} {S : Nat → List (List Bool)} {k : Nat} (h : ZSp w b V S k) (hk : V.length ≤ k) : Rd3 w (.slice (some ⟨b, 0, none⟩) V.length V.length) (stZ V S) := by
  obtain ⟨us, h1, h2, h3⟩ := h
  refine ⟨_, V.length, by rw [stZ_len], fun _ => ⟨b, 0, rfl, fun i hi => ?_⟩⟩
  rw [stZ_len] at hi
  obtain ⟨u, a1, a2, a3⟩ := h3 i hi
  refine ⟨u, by rw [Nat.zero_add, h1.cell]; exact a1, ?_⟩
  rw [stZ_at hi]
  by_cases hb : bitF V i = true
  · rw [if_pos hb]
    exact (a2 ⟨by omega, hb⟩).rd
  · rw [if_neg hb, a3 (fun h => hb h.2)]
    exact ⟨none, 0, rfl, fun h => absurd h (by simp)⟩
/-- A block's row while it grows. -/
def ZIn (wi : World) (bZ i : Nat) (us : List Value) (st : Nat → List Bool) (k : Nat) (un : Value) (w : World) : Prop :=
  ∃ u vs, Kep (fun b => b = bZ) wi w ∧ Bx w bZ 44 (us.set i u) ∧ w.ownsRow wi.heap.size 26 1 u (k + 1) vs ∧ u ≠ .slice none 0 0 ∧ (∀ j, j < k + 1 → ∃ v, vs[j]? = some v ∧ BRow w v (st j)) ∧ BRow w un (st k)
theorem ZIn.push {wi w w9 : World} {bZ i k : Nat} {us vs : List Value} {u u' v' : Value} {st : Nat → List Bool} {o : Obj}
    (hk : Kep (fun b => b = bZ) wi w) (hZ : Bx w bZ 44 (us.set i u)) (ho : w.ownsRow wi.heap.size 26 1 u k vs) (hr : ∀ j, j < k → ∃ v, vs[j]? = some v ∧ BRow w v (st j)) (hv : BRow w v' (st k))
    (hown : w9.ownsRow wi.heap.size 26 1 u' (k + 1) (vs ++ [v'])) (hg : (w.alloc o).grownBy w9 u.ownBlock) (hne : u' ≠ .slice none 0 0) : ZIn wi bZ i us st k v' (w9.setCell ⟨bZ, i, none⟩ u') := by
  have hk9 : Kep (fun b => u.ownBlock = some b) w w9 := ((Kep.refl _ w).alloc o).grown hg (fun q hq => .inr hq)
  have hZ9 : Bx w9 bZ 44 (us.set i u) := hZ.kep hk9 (fun h => own_ne ho hZ (fun cs fr e => by cases e) h)
  have hvl : vs.length = k := by simpa using ho.1
  have hks : Kep (fun b => b = bZ) w9 (w9.setCell ⟨bZ, i, none⟩ u') := Kep.setCell (M := fun b => b = bZ) (p := ⟨bZ, i, none⟩) (Kep.refl _ w9) (.inr rfl) _
  have hbr : ∀ (v : Value) (r : List Bool), BRow w v r → BRow (w9.setCell ⟨bZ, i, none⟩ u') v r := fun v r h => by
    obtain ⟨q, cap, ex, h1, h2⟩ := h
    have h3 : Bx w9 q 4 (bC r ++ ex) := h2.kep hk9 (fun h => own_ne ho h2 (fun cs fr e => by cases e) h)
    exact ⟨q, cap, ex, h1, h3.kep hks (fun e => bx_ne h3 hZ9 (by decide) e)⟩
  refine ⟨u', vs ++ [v'], (hk.sub hk9 (fun q hq => .inl (own_lt ho hq).2)).trans hks, ?_, own_kep hown hks (fun q hq e => by
    subst e
    exact own_ne hown hZ9 (fun cs fr e => by cases e) hq), hne, fun j hj => ?_, hbr _ _ hv⟩
  · have := hZ9.set i u'
    rw [List.set_set] at this
    exact this
  · by_cases e : j < k
    · obtain ⟨v, a1, a2⟩ := hr j e
      exact ⟨v, by rw [List.getElem?_append_left (by omega)]; exact a1, hbr _ _ a2⟩
    · obtain rfl : j = k := by omega
      exact ⟨v', by rw [List.getElem?_append_right (by omega), hvl, Nat.sub_self]; rfl, hbr _ _ hv⟩

set_option maxRecDepth 100000 in
set_option maxHeartbeats 8000000 in
theorem rflow_any (n0 : Nat) (B : Bv) (ni : Int) (n : Nat) (oS : Option Addr) (capS : Nat) (st : List Bool) (oc : Option Addr) (capC : Nat) (C : List Chg) (every : Bool) (w : World) (hn : n = ni.toNat) (hB : B.At n0 w) (hs : B.Small) (hS : BSrc n0 w oS st) (hC : CRow n0 w oc C) (hcs : CSmall C) (hn1 : n ≤ 1000) (hst : st.length ≤ 1000) (hn0 : n0 ≤ w.heap.size) :
    Calls Try.prog 14 #[B.v, .int .i64 ni, .slice oS st.length capS, .slice oc C.length capC, .bool every] w fun e w' => FlowZ B.g n C st every w e w' := by
  obtain ⟨nm, pa, lo, oa, cap, g⟩ := B
  simp only at hs ⊢
  obtain ⟨L, hL⟩ : ∃ L, L = g.length := ⟨_, rfl⟩
  obtain ⟨nS, hnS⟩ : ∃ k, k = st.length := ⟨_, rfl⟩
  obtain ⟨kC, hnC⟩ : ∃ k, k = C.length := ⟨_, rfl⟩
  have hL1 : L ≤ 1000 := by rw [hL]; exact hs.1
  have hC1 : kC ≤ 100 := by rw [hnC]; exact hcs.1
  rw [← hnS] at hst
  rw [← hnS, ← hnC]
  have HA := Lib.hid (And.intro hB (And.intro hs (And.intro hS (And.intro hC (And.intro hcs (And.intro hn0 (And.intro hL (And.intro hnS (And.intro hnC hn)))))))))
  unfold Bv.v Bv.cs
  simp only [← hL]
  have HRC : Go.RowKit.Hid (∀ W, Below w.heap.size w W → Calls Try.prog 21 #[.agg #[nm, pa, lo, .slice oa L cap]] W fun e w' => ∃ rb V, e = .returned (.slice (some ⟨rb, 0, none⟩) L L) ∧ W.heap.size ≤ rb ∧ Below W.heap.size W w' ∧ Bx w' rb 4 (bC V) ∧ V.length = L ∧ ∀ i, i < L → (bitF V i = true ↔ Rch g i)) := Lib.hid (fun W h => by
    have h2 := rreach_any n0 ⟨nm, pa, lo, oa, cap, g⟩ W (hB.below h hn0) hs (Nat.le_trans hn0 h.size)
    unfold Bv.v Bv.cs at h2
    simp only [← hL] at h2
    exact h2)
  have HPC : Go.RowKit.Hid (∀ W, Below w.heap.size w W → Calls Try.prog 19 #[.agg #[nm, pa, lo, .slice oa L cap]] W fun e w' => ∃ pr vs base, e = .returned (.slice (some ⟨pr, 0, none⟩) L L) ∧ W.heap.size ≤ pr ∧ W.heap.size ≤ base ∧ Below W.heap.size W w' ∧ vs.length = L ∧ PdAt w' base pr vs (prdK g L)) := Lib.hid (fun W h => by
    have h2 := rpreds_any n0 ⟨nm, pa, lo, oa, cap, g⟩ W (hB.below h hn0) hs (Nat.le_trans hn0 h.size)
    unfold Bv.v Bv.cs PredsT at h2
    simp only [← hL] at h2
    exact h2)
  have HFG : Go.RowKit.Hid (∀ W v, Calls Try.prog 33 #[.int .i64 ni, .bool v] W fun e w' => ∃ r, e = .returned (.slice (some ⟨r, 0, none⟩) n n) ∧ W.heap.size ≤ r ∧ Bx w' r 4 (bC (List.replicate n v)) ∧ Below W.heap.size W w') := Lib.hid (fun W v => flags_any ni v n W hn hn1)
  clear hB hs hS hC hcs hn0 hL hnS hnC hn
  go_enter Try.func14, Try.ntmps14
  go_upto_region 1 with fail
  obtain ⟨wa, hwa⟩ : ∃ wa, wa = w.alloc (.cells #[nm, pa, lo, .slice oa L cap] 25) := ⟨_, rfl⟩
  obtain ⟨s, hs⟩ : ∃ s, s = w.heap.size := ⟨_, rfl⟩
  rw [← hwa, ← hs]
  have hxa : Bx wa s 25 [nm, pa, lo, .slice oa L cap] := by
    rw [hwa, hs]
    exact Bx.new w _ [nm, pa, lo, .slice oa L cap]
  have hba : Below w.heap.size w wa := by
    rw [hwa]
    exact (Below.refl _ _).alloc (Nat.le_refl _) _
  have e0 := hxa.cell 0
  have e1 := hxa.cell 1
  have e2 := hxa.cell 2
  have e3 := hxa.cell 3
  simp at e0 e1 e2 e3
  have HW := Lib.hid (And.intro hxa hba)
  clear hxa hba hwa hs
  go_upto_region 2 with (go_at_call 21; refine (HRC.out _ HW.out.2).mono ?_; clear HRC e0 e1 e2 e3; rintro e w1 ⟨rb, V, rfl, r1, r2, r3, r4, r5⟩)
  have hx1 := HW.out.1.below r2 HW.out.1.lt
  have e0 := hx1.cell 0
  have e1 := hx1.cell 1
  have e2 := hx1.cell 2
  have e3 := hx1.cell 3
  simp at e0 e1 e2 e3
  have H1 := Lib.hid (And.intro hx1 (And.intro (HW.out.2.trans (r2.mono HW.out.2.size)) (And.intro (Nat.le_trans HW.out.2.size r1) r3)))
  have HV := Lib.hid (And.intro r4 r5)
  clear r1 r2 r3 r4 r5 hx1
  go_upto_region 3 with (go_at_call 19; refine (HPC.out _ H1.out.2.1).mono ?_; clear HPC e0 e1 e2 e3; rintro e w2 ⟨pr, vs, base, rfl, p1, p2, p3, p4, p5⟩)
  have H2 := Lib.hid (And.intro (H1.out.1.below p3 H1.out.1.lt) (And.intro (H1.out.2.1.trans (p3.mono H1.out.2.1.size)) (And.intro (H1.out.2.2.2.below p3 H1.out.2.2.2.lt) (And.intro p4 p5))))
  clear p1 p2 p3 p4 p5
  go_upto_region 4 with (go_at_call 33; refine (HFG.out _ _).mono ?_; rintro e w3 ⟨nb, rfl, q1, q2, q3⟩)
  have HN := Lib.hid (And.intro q1 (And.intro q2 q3))
  clear q1 q2 q3
  go_wp2
  go_loopw [14] (fun ui wr => ∃ (i : Nat) (cur : List Bool), i ≤ n ∧ ui = .int .i64 i ∧ cur.length = n ∧ (∀ j, j < n → cur[j]?.getD false = (decide (j < i) && st[j]?.getD false)) ∧ Bx wr nb 4 (bC cur) ∧ Below w2.heap.size w2 wr) (fun ui _ => n - (intOf ui).toNat)
  case atStart =>
    refine ⟨0, List.replicate n false, Nat.zero_le _, rfl, by simp, fun j hj => ?_, HN.out.2.1, HN.out.2.2⟩
    rw [List.getElem?_replicate_of_lt hj]
    simp
  case round =>
    obtain ⟨i, cur, hi, rfl, hcl, hcj, hbx, hbr⟩ := hrel
    have HC := Lib.hid (And.intro hcl (And.intro hcj (And.intro hbx hbr)))
    by_cases hgo : i < n ∧ i < nS
    · obtain ⟨hin, his⟩ := hgo
      obtain ⟨-, -, hS, -, -, hn0, -, hnS, -⟩ := HA.out
      have hbw := H2.out.2.1.trans (hbr.mono H2.out.2.1.size)
      obtain ⟨bS, fS, rfl, -, cS⟩ := hS.below hbw hn0 (by omega)
      have c9 := cS i (by omega)
      obtain ⟨x, hx⟩ : ∃ x, x = st[i]?.getD false := ⟨_, rfl⟩
      rw [← hx] at c9
      have hcy := hbx.cell i
      rw [bC_get (by omega)] at hcy
      have hfy := hbx.frozen i
      have HX9 := Lib.hid hx
      clear hS hn0 hnS hbw cS hx hcl hcj hbx hbr
      go_wp2
      go_roundw
      case rel =>
        obtain ⟨hcl, hcj, hbx, hbr⟩ := HC.out
        have h1 := hbx.set i (.bool x)
        rw [bC_set] at h1
        refine ⟨i + 1, cur.set i x, by omega, nxt _, by simp [hcl], fun j hj => ?_, h1, hbr.setCell (p := ⟨nb, i, none⟩) HN.out.1 _⟩
        by_cases e : i = j
        · subst e
          rw [List.getElem?_set_self (by omega), HX9.out]
          simp
        · rw [List.getElem?_set_ne e, hcj j hj]
          congr 1
          simp
          omega
      case measure => exact meas hin
    · have H4 : Go.RowKit.Hid (Bx wr nb 4 (bC (iniF st n)) ∧ Below w2.heap.size w2 wr ∧ Below w.heap.size w wr ∧ Bx wr s 25 [nm, pa, lo, .slice oa L cap] ∧ Bx wr rb 4 (bC V) ∧ vs.length = L ∧ PdAt wr base pr vs (prdK g L)) := Lib.hid (by
        obtain ⟨hcl, hcj, hbx, hbr⟩ := HC.out
        have e : cur = iniF st n := ext_get (by rw [hcl, iniF_len]) fun j hj => by
          rw [hcl] at hj
          rw [hcj j hj, iniF_get _ _ _ hj]
          by_cases e : j < i
          · simp [e]
          · have hnS := HA.out.2.2.2.2.2.2.2.1
            rw [List.getElem?_eq_none (l := st) (by omega)]
            simp
        rw [e] at hbx
        exact ⟨hbx, hbr, H2.out.2.1.trans (hbr.mono H2.out.2.1.size), H2.out.1.below hbr H2.out.1.lt, H2.out.2.2.1.below hbr H2.out.2.2.1.lt, H2.out.2.2.2.1, H2.out.2.2.2.2.below hbr⟩)
      obtain ⟨w4, rfl⟩ : ∃ w4 : World, w4 = wr := ⟨_, rfl⟩
      clear hcl hcj hbx hbr HC H1 H2 HN HW
      have e3 := H4.out.2.2.2.1.cell 3
      simp at e3
      have hmk := make_brows L hL1
      go_upto_region 5 with fail
      go_cut [45] (fun s45 wc => s45 = .bool false ∧ wc = w4)
      case first =>
        clear hmk e3
        by_cases hin : i < n
        · have his : ¬ i < nS := fun h => hgo ⟨hin, h⟩
          clear hgo
          go_wp2_with fail
          go_meet
          exact ⟨by simp [his], rfl⟩
        · clear hgo
          go_wp2_with fail
          go_meet
          exact ⟨by simp, rfl⟩
      case rest =>
        obtain ⟨hs45, hwc⟩ := hcut
        obtain rfl : w4 = wc := hwc.symm
        subst hs45
        clear hgo
        go_upto_region 9 with fail
        obtain ⟨bA, hbA⟩ : ∃ k, k = w4.heap.size := ⟨_, rfl⟩
        obtain ⟨w5, hw5⟩ : ∃ w5, w5 = w4.alloc (.cells (Array.replicate L (.slice none 0 0)) 26) := ⟨_, rfl⟩
        rw [← hw5, ← hbA]
        have v5 : Bx w5 bA 26 (List.replicate L (.slice none 0 0)) := by
          rw [hw5, hbA, ← List.toArray_replicate]
          exact Bx.new w4 26 (List.replicate L (.slice none 0 0))
        have b5 : Below w4.heap.size w4 w5 := by
          rw [hw5]
          exact (Below.refl _ _).alloc (Nat.le_refl _) _
        have H5 := Lib.hid (And.intro v5 (And.intro b5 (show w4.heap.size ≤ bA by omega)))
        have e3' := (H4.out.2.2.2.1.below b5 H4.out.2.2.2.1.lt).cell 3
        simp at e3'
        clear v5 b5 hw5 hbA e3
        go_upto_region 10 with fail
        obtain ⟨bO, hbO⟩ : ∃ k, k = w5.heap.size := ⟨_, rfl⟩
        obtain ⟨w6, hw6⟩ : ∃ w6, w6 = w5.alloc (.cells (Array.replicate L (.slice none 0 0)) 26) := ⟨_, rfl⟩
        rw [← hw6, ← hbO]
        have v6 : Bx w6 bO 26 (List.replicate L (.slice none 0 0)) := by
          rw [hw6, hbO, ← List.toArray_replicate]
          exact Bx.new w5 26 (List.replicate L (.slice none 0 0))
        have H6 : Go.RowKit.Hid (SpN w6 bA L 0 (List.replicate n every) ∧ SpN w6 bO L 0 (List.replicate n every) ∧ Below w4.heap.size w4 w6 ∧ w4.heap.size ≤ bA ∧ w4.heap.size ≤ bO ∧ bA ≠ bO ∧ Below w4.heap.size w4 w6) := Lib.hid (by
          obtain ⟨h1, h2, h3⟩ := H5.out
          have h4 := h1.lt
          have h5 := h2.size
          have h6 : Below w4.heap.size w4 w6 := by
            rw [hw6]
            exact h2.alloc h2.size _
          exact ⟨⟨_, by rw [hw6]; exact h1.alloc _, List.length_replicate, fun i hi => absurd hi (Nat.not_lt_zero _)⟩, ⟨_, v6, List.length_replicate, fun i hi => absurd hi (Nat.not_lt_zero _)⟩, h6, h3, by omega, by omega, h6⟩)
        clear v6 hw6 hbO e3' hmk H5
        go_wp2
        go_loopw [17] (fun u wr => ∃ i : Nat, i ≤ L ∧ u = .int .i64 i ∧ SpN wr bA L i (List.replicate n every) ∧ SpN wr bO L i (List.replicate n every) ∧ Below w4.heap.size w4 wr) (fun u _ => L - (intOf u).toNat)
        case atStart => exact ⟨0, Nat.zero_le _, rfl, H6.out.1, H6.out.2.1, H6.out.2.2.1⟩
        case round =>
          obtain ⟨i, hi, rfl, ha, ho, hb⟩ := hrel
          obtain ⟨wo, rfl⟩ : ∃ wo : World, wo = wr := ⟨_, rfl⟩
          have HI := Lib.hid (And.intro ha (And.intro ho hb))
          clear ha ho hb
          by_cases hlt : i < L
          · as_aux_lemma =>
              go_wp2_with fail
              go_upto_region 14 with (go_at_call 33; refine (HFG.out _ _).mono ?_; rintro e wf ⟨r, rfl, q1, q2, q3⟩; obtain ⟨ff, vf, cf⟩ := (HI.out.1.below q3).frz hlt; have HQ := Lib.hid (And.intro q1 (And.intro q2 q3)); clear q1 q2 q3)
              obtain ⟨wg, hwg⟩ : ∃ wg, wg = wf.setCell ⟨bA, i, none⟩ (.slice (some ⟨r, 0, none⟩) n n) := ⟨_, rfl⟩
              rw [← hwg]
              have HG : Go.RowKit.Hid (SpN wg bA L (i + 1) (List.replicate n every) ∧ SpN wg bO L i (List.replicate n every) ∧ Below w4.heap.size w4 wg) := Lib.hid (by
                rw [hwg]
                obtain ⟨q1, q2, q3⟩ := HQ.out
                obtain ⟨ha, ho, hb⟩ := HI.out
                exact ⟨(ha.below q3).set hlt ⟨r, n, [], by simp, by simpa using q2⟩, (ho.below q3).far (ha.below q3) H6.out.2.2.2.2.2.1, (hb.trans (q3.mono hb.size)).setCell (p := ⟨bA, i, none⟩) H6.out.2.2.2.1 _⟩)
              clear hwg ff cf HQ
              go_wp2_with (go_at_call 33; refine (HFG.out _ _).mono ?_; rintro e wh ⟨r2, rfl, q1, q2, q3⟩; obtain ⟨ff, vf2, cf⟩ := (HG.out.2.1.below q3).frz hlt; have HQ := Lib.hid (And.intro q1 (And.intro q2 q3)); clear q1 q2 q3)
              go_roundw
              case rel =>
                obtain ⟨q1, q2, q3⟩ := HQ.out
                obtain ⟨ha, ho, hb⟩ := HG.out
                exact ⟨i + 1, hlt, nxt _, (ha.below q3).far (ho.below q3) (Ne.symm H6.out.2.2.2.2.2.1), (ho.below q3).set hlt ⟨r2, n, [], by simp, by simpa using q2⟩, (hb.trans (q3.mono hb.size)).setCell (p := ⟨bO, i, none⟩) H6.out.2.2.2.2.1 _⟩
              case measure => exact meas hlt
          · as_aux_lemma =>
              obtain rfl : L = i := (last hi hlt).symm
              have HS : Go.RowKit.Hid (SpR wo bA (List.replicate L (List.replicate n every)) ∧ SpR wo bO (List.replicate L (List.replicate n every)) ∧ Below w4.heap.size w4 wo) := Lib.hid (by
                obtain ⟨⟨us, a1, a2, a3⟩, ⟨us', o1, o2, o3⟩, hb⟩ := HI.out
                exact ⟨SpR.new a1 a2 a3, SpR.new o1 o2 o3, hb⟩)
              clear HI
              go_wp2
              have hL : L = g.length := HA.out.2.2.2.2.2.2.1
              go_loopg [18] (leftF every (List.replicate L (List.replicate n every)) (List.replicate L (List.replicate n every)) + 1) (fun k uch wr => ∃ (ch : Bool) (A O : List (List Bool)), uch = .bool ch ∧ FxI g n C st every A O ∧ (ch = false → FxS g n C st every A O L) ∧ SpR wr bA A ∧ SpR wr bO O ∧ Below w4.heap.size w4 wr ∧ leftF every A O + (if ch then 1 else 0) = k)
              case atStart => exact ⟨true, _, _, rfl, by rw [hL]; exact FxI.start g n C st every, fun h => by (cases h), HS.out.1, HS.out.2.1, HS.out.2.2, rfl⟩
              case round =>
                obtain ⟨ch, A, O, rfl, hfx, hse, hA, hO, hb, hk⟩ := hrel
                have HR := Lib.hid (And.intro hfx (And.intro hse (And.intro hA (And.intro hO (And.intro hb hk)))))
                have HLL := Lib.hid hL
                clear hfx hse hA hO hb hk hL
                cases ch with
                | true =>
                  as_aux_lemma =>
                    go_wp2
                    go_loopw [18, 19] (fun uch ui wr => ∃ (ch : Bool) (i : Nat) (A' O' : List (List Bool)), i ≤ L ∧ ui = .int .i64 i ∧ uch = .bool ch ∧ FxI g n C st every A' O' ∧ SpR wr bA A' ∧ SpR wr bO O' ∧ Below w4.heap.size w4 wr ∧ leftF every A' O' ≤ leftF every A O ∧ (ch = true → leftF every A' O' < leftF every A O) ∧ (ch = false → FxS g n C st every A' O' i)) (fun _ ui _ => L - (intOf ui).toNat)
                    case atStart => exact ⟨false, 0, A, O, Nat.zero_le _, rfl, rfl, HR.out.1, HR.out.2.2.1, HR.out.2.2.2.1, HR.out.2.2.2.2.1, Nat.le_refl _, fun h => by (cases h), fun _ i hi => absurd hi (Nat.not_lt_zero _)⟩
                    case round =>
                      obtain ⟨ch, i, A', O', hi, rfl, rfl, hfx, hA, hO, hb, hle, hls, hse⟩ := hrel
                      obtain ⟨wi, rfl⟩ : ∃ wi : World, wi = wr := ⟨_, rfl⟩
                      have HI := Lib.hid (And.intro hfx (And.intro hA (And.intro hO (And.intro hb (And.intro hle (And.intro hls hse))))))
                      clear hfx hA hO hb hle hls hse
                      by_cases hlt : i < L
                      · as_aux_lemma =>
                          have cR := (H4.out.2.2.2.2.1.below HI.out.2.2.2.1 H4.out.2.2.2.2.1.lt).cell i
                          rw [bC_get (by rw [HV.out.1]; exact hlt)] at cR
                          obtain ⟨x, hx⟩ : ∃ x, x = V[i]?.getD false := ⟨_, rfl⟩
                          rw [← hx] at cR
                          have HX := Lib.hid hx
                          clear hx
                          cases x with
                          | false =>
                            as_aux_lemma =>
                              go_wp2
                              go_roundw
                              case rel =>
                                obtain ⟨hfx, hA, hO, hb, hle, hls, hse⟩ := HI.out
                                refine ⟨ch, i + 1, A', O', hlt, nxt _, rfl, hfx, hA, hO, hb, hle, hls, fun h k hk hr => ?_⟩
                                by_cases e : k = i
                                · subst e
                                  have h2 := (HV.out.2 k hlt).2 hr
                                  have h3 : V[k]?.getD false = true := h2
                                  rw [← HX.out] at h3
                                  cases h3
                                · exact hse h k (by omega) hr
                              case measure => exact meas hlt
                          | true =>
                            as_aux_lemma =>
                              have hri : Rch g i := (HV.out.2 i hlt).1 HX.out.symm
                              have HRI := Lib.hid hri
                              clear hri
                              go_upto_region 23 with (go_at_call 33; refine (HFG.out _ _).mono ?_; rintro e wf ⟨gF, rfl, q1, q2, q3⟩; have HF := Lib.hid (And.intro q1 (And.intro q2 q3)); clear q1 q2 q3)
                              clear cR
                              obtain ⟨zb, hzb⟩ : ∃ b, b = decide (i = 0) := ⟨_, rfl⟩
                              have HZB := Lib.hid hzb
                              go_cut [97] (fun s97 wc => s97 = .bool zb ∧ wc = wf)
                              case first =>
                                subst hzb
                                by_cases h0 : i = 0
                                · have h00 : ((i : Int) == 0) = true := by simp [h0]
                                  have H0 := Lib.hid h0
                                  clear h0
                                  go_wp2_with fail
                                  go_meet
                                  exact ⟨by simp [H0.out], rfl⟩
                                · have h00 : ((i : Int) == 0) = false := by simp; omega
                                  have H0 := Lib.hid h0
                                  clear h0
                                  go_wp2_with fail
                                  go_meet
                                  exact ⟨by simp [H0.out], rfl⟩
                              case rest =>
                              obtain ⟨hs97, hwc⟩ := hcut
                              obtain rfl : wf = wc := hwc.symm
                              subst hs97
                              clear hzb
                              go_upto_if 97 with fail
                              go_cut [20] (fun u20 wc => ∃ gN capN exN, u20 = .slice (some ⟨gN, 0, none⟩) n capN ∧ wi.heap.size ≤ gN ∧ Bx wc gN 4 (bC (if i = 0 then iniF st n else List.replicate n every) ++ exN) ∧ Below wi.heap.size wi wc)
                              case first =>
                                cases zb with
                                | true =>
                                  have HCP := Lib.hid (copied_any (.slice (some ⟨nb, 0, none⟩) n n) (iniF st n) wf ⟨nb, n, [], by rw [iniF_len], by
                                    have h1 := H4.out.1.below HI.out.2.2.2.1 H4.out.1.lt
                                    have h2 := h1.below HF.out.2.2 h1.lt
                                    simpa using h2⟩ (by rw [iniF_len]; exact hn1))
                                  go_wp2_with (go_at_call 34; refine HCP.out.mono ?_; clear HCP; rintro e wc ⟨v', rfl, hnb, hbc⟩; obtain ⟨gN, capN, exN, rfl, g1, g2⟩ := hnb; have HG := Lib.hid (And.intro g1 (And.intro g2 hbc)); clear g1 g2 hbc)
                                  go_meet
                                  obtain ⟨g1, g2, hbc⟩ := HG.out
                                  exact ⟨gN, capN, exN, by rw [iniF_len], Nat.le_trans HF.out.2.2.size g1, by rw [if_pos (of_decide_eq_true HZB.out.symm)]; exact g2, HF.out.2.2.trans (hbc.mono HF.out.2.2.size)⟩
                                | false =>
                                  go_wp2_with fail
                                  go_meet
                                  exact ⟨gF, n, [], rfl, HF.out.1, by rw [if_neg (of_decide_eq_false HZB.out.symm)]; simpa using HF.out.2.1, HF.out.2.2⟩
                              case rest =>
                                obtain ⟨gN, capN, exN, rfl, hgN, hbN, hbc⟩ := hcut
                                have HGN := Lib.hid (And.intro hgN (And.intro hbN hbc))
                                clear hgN hbN hbc HF
                                obtain ⟨ou, cu, hpr0, hprs0⟩ := (H4.out.2.2.2.2.2.2.below HI.out.2.2.2.1).read9 (i := i) (by rw [H4.out.2.2.2.2.2.1]; exact hlt)
                                obtain ⟨np, hnp⟩ : ∃ k, k = (prdK g L i).length := ⟨_, rfl⟩
                                have hnp1 : np ≤ 1000 := by
                                  have := prdK_len9 g L i
                                  omega
                                rw [← hnp] at hpr0
                                have HPR := Lib.hid (And.intro hpr0 (And.intro hprs0 hnp))
                                clear hpr0 hprs0 hnp
                                go_wp2
                                go_loopw [21] (fun u wr => ∃ (k : Nat) (now : List Bool), k ≤ np ∧ u = .int .i64 k ∧ NwK g n st every O' i ((prdK g L i).take k) now ∧ Bx wr gN 4 (bC now ++ exN) ∧ Below wi.heap.size wi wr) (fun u _ => np - (intOf u).toNat)
                                case atStart => exact ⟨0, _, Nat.zero_le _, rfl, by rw [List.take_zero]; exact NwK.start g n st every O' i, HGN.out.2.1, HGN.out.2.2⟩
                                case round =>
                                  obtain ⟨k, now, hk, rfl, hnw, hbx, hbz⟩ := hrel
                                  obtain ⟨wk, rfl⟩ : ∃ wk : World, wk = wr := ⟨_, rfl⟩
                                  have cP := below_cell hbz HPR.out.1
                                  by_cases hlk : k < np
                                  · as_aux_lemma =>
                                      obtain ⟨gu, rfl, hq⟩ := HPR.out.2.1 k (by have := HPR.out.2.2; omega)
                                      have cQ := below_cell hbz hq
                                      obtain ⟨p, hp⟩ : ∃ p, p = (prdK g L i)[k]'(by have := HPR.out.2.2; omega) := ⟨_, rfl⟩
                                      rw [← hp] at cQ
                                      have hpL : p < L := by
                                        have h1 := List.getElem_mem (l := prdK g L i) (n := k) (by have := HPR.out.2.2; omega)
                                        rw [← hp] at h1
                                        have h2 : p ∈ prdK g g.length i := by rw [← HLL.out]; exact h1
                                        have h3 := (prd_mem.1 h2).1
                                        have h4 := HLL.out
                                        omega
                                      obtain ⟨y0, hy0⟩ : ∃ y, y = V[p]?.getD false := ⟨_, rfl⟩
                                      have HP := Lib.hid (And.intro hp (And.intro hpL hy0))
                                      have HK := Lib.hid (And.intro hnw (And.intro hbx hbz))
                                      clear hq hp hy0 hnw hbx hbz
                                      go_wp2
                                      clear cP cQ
                                      go_loopw [23] (fun u wr => ∃ (j : Nat) (now' : List Bool), j ≤ n ∧ u = .int .i64 j ∧ now'.length = n ∧ (∀ j', j' < n → now'[j']?.getD false = if j' < j then cmbF every (now[j']?.getD false) (vA O' p j') else now[j']?.getD false) ∧ Bx wr gN 4 (bC now' ++ exN) ∧ Below wi.heap.size wi wr ∧ (y0 = false → j = 0)) (fun u _ => n - (intOf u).toNat)
                                      case atStart => exact ⟨0, now, Nat.zero_le _, rfl, HK.out.1.1, fun j' _ => by rw [if_neg (Nat.not_lt_zero _)], HK.out.2.1, HK.out.2.2, fun _ => rfl⟩
                                      case round =>
                                        obtain ⟨j, now', hj, rfl, hcl, hcj, hbx, hbz, hjp⟩ := hrel
                                        have HJ := Lib.hid (And.intro hcl (And.intro hcj (And.intro hbx (And.intro hbz hjp))))
                                        have hbw4 : Below w4.heap.size w4 wr := HI.out.2.2.2.1.trans (hbz.mono HI.out.2.2.2.1.size)
                                        have cV := (H4.out.2.2.2.2.1.below hbw4 H4.out.2.2.2.2.1.lt).cell p
                                        rw [bC_get (by rw [HV.out.1]; exact hpL), ← HP.out.2.2] at cV
                                        clear hbw4
                                        by_cases hlj : j < n
                                        · cases y0 with
                                          | true =>
                                            as_aux_lemma =>
                                              have hcy := hbx.cell j
                                              rw [bC_at (by omega)] at hcy
                                              have hfy := hbx.frozen j
                                              have hpO : p < O'.length := by rw [HI.out.1.lo, ← HLL.out]; exact hpL
                                              obtain ⟨rO, cO, exO, hO1, -, hO2⟩ := (HI.out.2.2.1.below hbz).at hpO
                                              have hlO : (rowA O' p).length = n := HI.out.1.ro p (by rw [← HLL.out]; exact hpL)
                                              rw [hlO] at hO1
                                              have hO3 := hO2.cell j
                                              rw [bC_at (by omega)] at hO3
                                              obtain ⟨x, hx⟩ : ∃ x, x = now'[j]?.getD false := ⟨_, rfl⟩
                                              obtain ⟨y, hy⟩ : ∃ y, y = (rowA O' p)[j]?.getD false := ⟨_, rfl⟩
                                              rw [← hx] at hcy
                                              rw [← hy] at hO3
                                              have HXY := Lib.hid (And.intro hx (And.intro hy hlO))
                                              clear hx hy hcl hcj hbx hbz hjp hpO hO2 hlO
                                              cases every with
                                              | true =>
                                                cases x with
                                                | true =>
                                                  go_wp2
                                                  go_roundw
                                                  case rel =>
                                                    obtain ⟨hcl, hcj, hbx, hbz, hjp⟩ := HJ.out
                                                    obtain ⟨hx, hy, hnl⟩ := HXY.out
                                                    have h1 := hbx.set j (.bool (y))
                                                    rw [bCx_set _ _ (by omega)] at h1
                                                    refine ⟨j + 1, now'.set j (y), hlj, nxt _, by simp [hcl], fun j' hj' => ?_, h1, hbz.setCell (p := ⟨gN, j, none⟩) HGN.out.1 _, fun h => by (first | cases h | (rw [← HP.out.2.2] at h; cases h))⟩
                                                    by_cases e : j = j'
                                                    · subst e
                                                      rw [List.getElem?_set_self (by omega), if_pos (Nat.lt_succ_self _)]
                                                      have h2 := hcj j hj'
                                                      rw [if_neg (Nat.lt_irrefl _), ← hx] at h2
                                                      rw [← h2, show vA O' p j = y from hy.symm]
                                                      rfl
                                                    · rw [List.getElem?_set_ne e, hcj j' hj']
                                                      by_cases e2 : j' < j
                                                      · rw [if_pos e2, if_pos (by omega)]
                                                      · rw [if_neg e2, if_neg (by omega)]
                                                  case measure => exact meas hlj
                                                | false =>
                                                  go_wp2
                                                  go_roundw
                                                  case rel =>
                                                    obtain ⟨hcl, hcj, hbx, hbz, hjp⟩ := HJ.out
                                                    obtain ⟨hx, hy, hnl⟩ := HXY.out
                                                    have h1 := hbx.set j (.bool (false))
                                                    rw [bCx_set _ _ (by omega)] at h1
                                                    refine ⟨j + 1, now'.set j (false), hlj, nxt _, by simp [hcl], fun j' hj' => ?_, h1, hbz.setCell (p := ⟨gN, j, none⟩) HGN.out.1 _, fun h => by (first | cases h | (rw [← HP.out.2.2] at h; cases h))⟩
                                                    by_cases e : j = j'
                                                    · subst e
                                                      rw [List.getElem?_set_self (by omega), if_pos (Nat.lt_succ_self _)]
                                                      have h2 := hcj j hj'
                                                      rw [if_neg (Nat.lt_irrefl _), ← hx] at h2
                                                      rw [← h2, show vA O' p j = y from hy.symm]
                                                      rfl
                                                    · rw [List.getElem?_set_ne e, hcj j' hj']
                                                      by_cases e2 : j' < j
                                                      · rw [if_pos e2, if_pos (by omega)]
                                                      · rw [if_neg e2, if_neg (by omega)]
                                                  case measure => exact meas hlj
                                              | false =>
                                                cases x with
                                                | true =>
                                                  go_wp2
                                                  go_roundw
                                                  case rel =>
                                                    obtain ⟨hcl, hcj, hbx, hbz, hjp⟩ := HJ.out
                                                    obtain ⟨hx, hy, hnl⟩ := HXY.out
                                                    have h1 := hbx.set j (.bool (true))
                                                    rw [bCx_set _ _ (by omega)] at h1
                                                    refine ⟨j + 1, now'.set j (true), hlj, nxt _, by simp [hcl], fun j' hj' => ?_, h1, hbz.setCell (p := ⟨gN, j, none⟩) HGN.out.1 _, fun h => by (first | cases h | (rw [← HP.out.2.2] at h; cases h))⟩
                                                    by_cases e : j = j'
                                                    · subst e
                                                      rw [List.getElem?_set_self (by omega), if_pos (Nat.lt_succ_self _)]
                                                      have h2 := hcj j hj'
                                                      rw [if_neg (Nat.lt_irrefl _), ← hx] at h2
                                                      rw [← h2, show vA O' p j = y from hy.symm]
                                                      rfl
                                                    · rw [List.getElem?_set_ne e, hcj j' hj']
                                                      by_cases e2 : j' < j
                                                      · rw [if_pos e2, if_pos (by omega)]
                                                      · rw [if_neg e2, if_neg (by omega)]
                                                  case measure => exact meas hlj
                                                | false =>
                                                  go_wp2
                                                  go_roundw
                                                  case rel =>
                                                    obtain ⟨hcl, hcj, hbx, hbz, hjp⟩ := HJ.out
                                                    obtain ⟨hx, hy, hnl⟩ := HXY.out
                                                    have h1 := hbx.set j (.bool (y))
                                                    rw [bCx_set _ _ (by omega)] at h1
                                                    refine ⟨j + 1, now'.set j (y), hlj, nxt _, by simp [hcl], fun j' hj' => ?_, h1, hbz.setCell (p := ⟨gN, j, none⟩) HGN.out.1 _, fun h => by (first | cases h | (rw [← HP.out.2.2] at h; cases h))⟩
                                                    by_cases e : j = j'
                                                    · subst e
                                                      rw [List.getElem?_set_self (by omega), if_pos (Nat.lt_succ_self _)]
                                                      have h2 := hcj j hj'
                                                      rw [if_neg (Nat.lt_irrefl _), ← hx] at h2
                                                      rw [← h2, show vA O' p j = y from hy.symm]
                                                      rfl
                                                    · rw [List.getElem?_set_ne e, hcj j' hj']
                                                      by_cases e2 : j' < j
                                                      · rw [if_pos e2, if_pos (by omega)]
                                                      · rw [if_neg e2, if_neg (by omega)]
                                                  case measure => exact meas hlj
                                          | false =>
                                            as_aux_lemma =>
                                              clear hcl hcj hbx hbz hjp
                                              go_wp2
                                              go_roundw
                                              case rel =>
                                                obtain ⟨hcl, hcj, hbx, hbz, hjp⟩ := HJ.out
                                                refine ⟨k + 1, now', hlk, nxt _, ?_, hbx, hbz⟩
                                                have hp2 := HP.out.1
                                                rw [List.take_add_one, List.getElem?_eq_getElem (by have := HPR.out.2.2; omega), ← hp2]
                                                refine HK.out.1.step hcl (fun hr => ?_) (fun _ j' hj' => ?_)
                                                · have h2 := (HV.out.2 p hpL).2 hr
                                                  have h3 : V[p]?.getD false = true := h2
                                                  rw [← HP.out.2.2] at h3
                                                  cases h3
                                                · rw [hcj j' hj', if_neg (by have := hjp rfl; omega)]
                                              case measure => exact meas hlk
                                        · as_aux_lemma =>
                                            obtain rfl : n = j := (last hj hlj).symm
                                            clear hcl hcj hbx hbz hjp
                                            go_wp2
                                            go_roundw
                                            case rel =>
                                              obtain ⟨hcl, hcj, hbx, hbz, hjp⟩ := HJ.out
                                              refine ⟨k + 1, now', hlk, nxt _, ?_, hbx, hbz⟩
                                              have hp2 := HP.out.1
                                              rw [List.take_add_one, List.getElem?_eq_getElem (by have := HPR.out.2.2; omega), ← hp2]
                                              refine HK.out.1.step hcl (fun _ j' hj' => by rw [hcj j' hj', if_pos hj']) (fun hr j' hj' => ?_)
                                              have h3 : y0 = false := by
                                                cases hy0 : y0
                                                · rfl
                                                · exact absurd ((HV.out.2 p hpL).1 (HP.out.2.2.symm.trans hy0)) hr
                                              have := hjp h3
                                              omega
                                            case measure => exact meas hlk
                                  · as_aux_lemma =>
                                      obtain rfl : np = k := (last hk hlk).symm
                                      have HNW : Go.RowKit.Hid (NwAt g n st every O' i now ∧ Bx wk gN 4 (bC now ++ exN) ∧ Below wi.heap.size wi wk) := Lib.hid (by
                                        refine ⟨NwK.at ?_, hbx, hbz⟩
                                        rw [HPR.out.2.2, List.take_length, HLL.out] at hnw
                                        exact hnw)
                                      clear hnw hbx hbz
                                      go_upto_region 36 with fail
                                      clear cP
                                      obtain ⟨m, hm⟩ : ∃ m, m = insR g i := ⟨_, rfl⟩
                                      have hn0 := HA.out.2.2.2.2.2.1
                                      have hig : i < g.length := by have := HLL.out; omega
                                      have hbw4 : Below w4.heap.size w4 wk := HI.out.2.2.2.1.trans (HNW.out.2.2.mono HI.out.2.2.2.1.size)
                                      have hbw : Below w.heap.size w wk := H4.out.2.2.1.trans (hbw4.mono H4.out.2.2.1.size)
                                      have hx4 := H4.out.2.2.2.1.below hbw4 H4.out.2.2.2.1.lt
                                      obtain ⟨bl, fl, hoa, hbl, hrow⟩ := HA.out.1 (by show 0 < g.length; omega)
                                      have hoa' : oa = some ⟨bl, fl, none⟩ := hoa
                                      subst hoa'
                                      obtain ⟨⟨ia, ic, cB⟩, -⟩ := hrow i hig
                                      rw [← hm] at cB
                                      have hm1 : m ≤ 1000 := by rw [hm]; exact (HA.out.2.1.2 i).1
                                      have HCB : Go.RowKit.Hid (∀ W, Below wk.heap.size wk W → W.cell? ⟨bl, fl + i * 17, none⟩ = some (.slice ia m ic) ∧ W.cell? ⟨s, 3, none⟩ = some (.slice (some ⟨bl, fl, none⟩) L cap) ∧ Below w.heap.size w W) := Lib.hid (fun W h => ⟨below_cell (hbw.trans (h.mono hbw.size)) cB, by
                                        have := (hx4.below h hx4.lt).cell 3
                                        simpa using this, hbw.trans (h.mono hbw.size)⟩)
                                      have HM := Lib.hid (And.intro hm hig)
                                      have HOK : Go.RowKit.Hid (∀ k : Nat, k < m + 1 → okS g (i : Int) (k : Int) = true) := Lib.hid (fun k hk => by simp [okS, isPl]; omega)
                                      clear hm hn0 hig hbw4 hbw hx4 hoa hbl hrow cB
                                      go_wp2
                                      go_loopw [24, 25] (fun ue uk wr => ∃ k : Nat, k ≤ m + 1 ∧ uk = .int .i64 k ∧ BRow wr ue (runB g n C i ((alongL false m).take k) now) ∧ Below wk.heap.size wk wr) (fun _ uk _ => m + 1 - (intOf uk).toNat)
                                      case atStart =>
                                        refine ⟨0, Nat.zero_le _, rfl, ?_, Below.refl _ _⟩
                                        rw [List.take_zero]
                                        exact ⟨gN, capN, exN, by rw [show runB g n C i [] now = now from rfl, HNW.out.1.1], HNW.out.2.1⟩
                                      case round =>
                                        obtain ⟨k, hk, rfl, hbr, hbz⟩ := hrel
                                        obtain ⟨wq, rfl⟩ : ∃ wq : World, wq = wr := ⟨_, rfl⟩
                                        obtain ⟨cB, e3, -⟩ := HCB.out wq hbz
                                        have HB := Lib.hid (And.intro hbr hbz)
                                        clear hbr hbz
                                        by_cases hlk : k < m + 1
                                        · as_aux_lemma =>
                                            have HST : Go.RowKit.Hid (Calls Try.prog 35 #[u24, .slice oc kC capC, .int .i64 (i : Int), .int .i64 (k : Int)] wq fun e w' => ∃ v', e = .returned v' ∧ NBR wq w' v' (runB g n C i ((alongL false m).take (k + 1)) now) ∧ Below wq.heap.size wq w') := Lib.hid (by
                                              obtain ⟨-, -, -, hC, hcs, hn0, -, -, hnC, -⟩ := HA.out
                                              have hbw := (HCB.out wq HB.out.2).2.2
                                              have h := rstep_any n0 oc capC C i k u24 n _ wq (hC.below hbw hn0) hcs.2 (by omega) (Nat.le_trans hn0 hbw.size) hn1 (by rw [runB_len, HNW.out.1.1]) HB.out.1
                                              rw [aftF_step (HOK.out k hlk), ← hnC] at h
                                              have e : runB g n C i ((alongL false m).take (k + 1)) now = stepF g n C i k (runB g n C i ((alongL false m).take k) now) := by
                                                rw [runB_take _ _ _ _ (by simp [alongL]; omega), stepF]
                                                simp [alongF]
                                              rw [e]
                                              exact h)
                                            go_wp2_with (go_at_call 35; refine HST.out.mono ?_; clear HST; rintro e w9 ⟨v', rfl, hnb, hb9⟩; have HQ := Lib.hid (And.intro hnb hb9); clear hnb hb9)
                                            go_roundw
                                            case rel => exact ⟨k + 1, hlk, nxt _, HQ.out.1.brow, HB.out.2.trans (HQ.out.2.mono HB.out.2.size)⟩
                                            case measure => exact meas hlk
                                        · as_aux_lemma =>
                                            obtain rfl : k = m + 1 := last hk hlk
                                            obtain ⟨gE, cE, exE, hu, hEb⟩ := HB.out.1
                                            rw [runB_len, HNW.out.1.1] at hu
                                            subst hu
                                            rw [List.take_of_length_le (by simp [alongL])] at hEb
                                            obtain ⟨en, hen⟩ : ∃ r, r = runF g n C i now := ⟨_, rfl⟩
                                            have hen2 : runB g n C i (alongL false m) now = en := by rw [hen, HM.out.1]
                                            rw [hen2] at hEb
                                            have hle : en.length = n := by rw [hen, runF, runB_len, HNW.out.1.1]
                                            have hbq : Below wi.heap.size wi wq := HNW.out.2.2.trans (HB.out.2.mono HNW.out.2.2.size)
                                            have hNb := HNW.out.2.1.below HB.out.2 HNW.out.2.1.lt
                                            have hfx := HI.out.1
                                            have hiA : i < A'.length := by rw [hfx.la]; exact HM.out.2
                                            have hiO : i < O'.length := by rw [hfx.lo]; exact HM.out.2
                                            obtain ⟨rA, cA, exA, dA, fA, bA'⟩ := (HI.out.2.1.below hbq).at hiA
                                            obtain ⟨rO, cO, exO, dO, fO, bO'⟩ := (HI.out.2.2.1.below hbq).at hiO
                                            have lA : (rowA A' i).length = n := hfx.ra i HM.out.2
                                            have lO : (rowA O' i).length = n := hfx.ro i HM.out.2
                                            rw [lA] at dA
                                            rw [lO] at dO
                                            obtain ⟨d1, hd1⟩ : ∃ b, b = decide (now = rowA A' i) := ⟨_, rfl⟩
                                            obtain ⟨d2, hd2⟩ : ∃ b, b = decide (en = rowA O' i) := ⟨_, rfl⟩
                                            have HSA : Go.RowKit.Hid (Calls Try.prog 26 #[.slice (some ⟨gN, 0, none⟩) n capN, .slice (some ⟨rA, 0, none⟩) n cA] wq fun e w' => e = .returned (.bool d1) ∧ Below wq.heap.size wq w') := Lib.hid (by
                                              have h := rsame_any (.slice (some ⟨gN, 0, none⟩) n capN) (.slice (some ⟨rA, 0, none⟩) n cA) now (rowA A' i) wq (BRow.rd ⟨gN, capN, exN, by rw [HNW.out.1.1], hNb⟩) (BRow.rd ⟨rA, cA, exA, by rw [lA], bA'⟩) (by rw [HNW.out.1.1, lA]) (by rw [HNW.out.1.1]; exact hn1)
                                              rw [← hd1] at h
                                              exact h)
                                            have HSO : Go.RowKit.Hid (∀ W, Below wq.heap.size wq W → Calls Try.prog 26 #[.slice (some ⟨gE, 0, none⟩) n cE, .slice (some ⟨rO, 0, none⟩) n cO] W fun e w' => e = .returned (.bool d2) ∧ Below W.heap.size W w') := Lib.hid (fun W hW => by
                                              have h := rsame_any (.slice (some ⟨gE, 0, none⟩) n cE) (.slice (some ⟨rO, 0, none⟩) n cO) en (rowA O' i) W (BRow.rd ⟨gE, cE, exE, by rw [hle], hEb.below hW hEb.lt⟩) (BRow.rd ⟨rO, cO, exO, by rw [lO], bO'.below hW bO'.lt⟩) (by rw [hle, lO]) (by rw [hle]; exact hn1)
                                              rw [← hd2] at h
                                              exact h)
                                            obtain ⟨z, hz⟩ : ∃ z, z = !(d1 && d2) := ⟨_, rfl⟩
                                            have HD := Lib.hid (And.intro hd1 (And.intro hd2 (And.intro hz (And.intro hen (And.intro hbq (And.intro hNb (And.intro hEb (And.intro hle (And.intro hiA (And.intro hiO (And.intro lA lO)))))))))))
                                            clear hd1 hd2 hz hen hen2 hbq hNb hEb hle hiA hiO lA lO hfx bA' bO' fA fO
                                            go_upto_region 40 with fail
                                            clear cB e3
                                            go_cut [193] (fun s193 wc => s193 = .bool z ∧ Below wq.heap.size wq wc)
                                            case first =>
                                              cases d1 with
                                              | false =>
                                                go_wp2_with (go_at_call 26; refine HSA.out.mono ?_; clear HSA; rintro e wx ⟨rfl, hbx⟩; have HBX := Lib.hid hbx; clear hbx)
                                                go_meet
                                                exact ⟨by rw [HD.out.2.2.1]; rfl, HBX.out⟩
                                              | true =>
                                                go_wp2_with (first | (go_at_call 26; refine HSA.out.mono ?_; clear HSA; rintro e wx ⟨rfl, hbx⟩; have HBX := Lib.hid hbx; have dO' := below_cell hbx dO; clear hbx) | (go_at_call 26; refine (HSO.out _ HBX.out).mono ?_; rintro e wy ⟨rfl, hby⟩; have HBY := Lib.hid hby; clear hby))
                                                go_meet
                                                exact ⟨by rw [HD.out.2.2.1]; cases d2 <;> rfl, HBX.out.trans (HBY.out.mono HBX.out.size)⟩
                                            case rest =>
                                              obtain ⟨hs193, hbc⟩ := hcut
                                              obtain ⟨wd, rfl⟩ : ∃ wd : World, wd = wc := ⟨_, rfl⟩
                                              subst hs193
                                              have HWD := Lib.hid hbc
                                              clear hbc dA dO HSA HSO
                                              go_upto_if 193 with fail
                                              go_cut [18] (fun s18 wc => s18 = .bool (ch || z) ∧ wc = wd)
                                              case first =>
                                                cases z with
                                                | true =>
                                                  go_wp2_with fail
                                                  go_meet
                                                  exact ⟨by simp, rfl⟩
                                                | false =>
                                                  go_wp2_with fail
                                                  go_meet
                                                  exact ⟨by simp, rfl⟩
                                              case rest =>
                                                obtain ⟨hs18, hwc⟩ := hcut
                                                obtain rfl : wd = wc := hwc.symm
                                                subst hs18
                                                obtain ⟨cz, hcz⟩ : ∃ b, b = (ch || z) := ⟨_, rfl⟩
                                                rw [← hcz]
                                                have HCZ := Lib.hid hcz
                                                clear hcz
                                                have hbid : Below wi.heap.size wi wd := HD.out.2.2.2.2.1.trans (HWD.out.mono HD.out.2.2.2.2.1.size)
                                                have sA := HI.out.2.1.below hbid
                                                have sO := HI.out.2.2.1.below hbid
                                                obtain ⟨rA2, cA2, exA2, dA2, fA2, -⟩ := sA.at HD.out.2.2.2.2.2.2.2.2.1
                                                have HSS := Lib.hid (And.intro sA (And.intro sO hbid))
                                                clear sA sO hbid
                                                go_upto_region 43 with fail
                                                obtain ⟨we, hwe⟩ : ∃ we, we = wd.setCell ⟨bA, i, none⟩ (.slice (some ⟨gN, 0, none⟩) n capN) := ⟨_, rfl⟩
                                                rw [← hwe]
                                                have HSE : Go.RowKit.Hid (SpR we bA (A'.set i now) ∧ SpR we bO O' ∧ Below w4.heap.size w4 we ∧ BRow we (.slice (some ⟨gE, 0, none⟩) n cE) en) := Lib.hid (by
                                                  rw [hwe]
                                                  obtain ⟨sA, sO, hbid⟩ := HSS.out
                                                  obtain ⟨-, -, -, -, -, hNb, hEb, hle, hiA, -⟩ := HD.out
                                                  have hb4 := HI.out.2.2.2.1
                                                  have hEd := hEb.below HWD.out hEb.lt
                                                  obtain ⟨us, ub, -⟩ := id sA
                                                  exact ⟨sA.set hiA ⟨gN, capN, exN, by rw [HNW.out.1.1], hNb.below HWD.out hNb.lt⟩, sO.far sA H6.out.2.2.2.2.2.1, (hb4.trans (hbid.mono hb4.size)).setCell (p := ⟨bA, i, none⟩) H6.out.2.2.2.1 _, BRow.set ⟨gE, cE, exE, by rw [hle], hEd⟩ ub⟩)
                                                clear hwe fA2 dA2
                                                obtain ⟨rO2, cO2, exO2, dO2, fO2, -⟩ := HSE.out.2.1.at HD.out.2.2.2.2.2.2.2.2.2.1
                                                go_wp2
                                                go_roundw
                                                case rel =>
                                                  obtain ⟨hd1, hd2, hz, hen, -, -, -, hle, hiA, hiO, lA, lO⟩ := HD.out
                                                  obtain ⟨tA, tO, tb, tE⟩ := HSE.out
                                                  have hst := HI.out.1.step HRI.out HNW.out.1
                                                  have hls := HI.out.1.less HRI.out HNW.out.1
                                                  have tO2 := tO.set hiO tE
                                                  rw [hen] at tO2
                                                  refine ⟨cz, i + 1, A'.set i now, O'.set i (runF g n C i now), hlt, nxt _, rfl, hst, tA.far tO (Ne.symm H6.out.2.2.2.2.2.1), tO2, tb.setCell (p := ⟨bO, i, none⟩) H6.out.2.2.2.2.1 _, Nat.le_trans hls.1 HI.out.2.2.2.2.1, fun h => ?_, fun h => ?_⟩
                                                  · rw [HCZ.out] at h
                                                    cases hch : ch with
                                                    | true => exact Nat.lt_of_le_of_lt hls.1 (HI.out.2.2.2.2.2.1 hch)
                                                    | false =>
                                                      rw [hch, Bool.false_or, hz] at h
                                                      refine Nat.lt_of_lt_of_le (hls.2 ?_) HI.out.2.2.2.2.1
                                                      cases hq1 : d1 with
                                                      | false => exact .inl (of_decide_eq_false (hd1.symm.trans hq1))
                                                      | true =>
                                                        rw [hq1, Bool.true_and] at h
                                                        have hq2 : d2 = false := by simpa using h
                                                        rw [hen] at hd2
                                                        exact .inr (of_decide_eq_false (hd2.symm.trans hq2))
                                                  · rw [HCZ.out, Bool.or_eq_false_iff] at h
                                                    obtain ⟨hch, hzf⟩ := h
                                                    rw [hz] at hzf
                                                    have hq : d1 = true ∧ d2 = true := by
                                                      revert hzf
                                                      cases d1 <;> cases d2 <;> simp
                                                    have hq1 := of_decide_eq_true (hd1.symm.trans hq.1)
                                                    have hq2 := of_decide_eq_true (hd2.symm.trans hq.2)
                                                    rw [hen] at hq2
                                                    rw [set_same hiA hq1, set_same hiO hq2]
                                                    intro k hk hr
                                                    by_cases e : k = i
                                                    · subst e
                                                      rw [← hq1]
                                                      exact ⟨HNW.out.1, hq2.symm⟩
                                                    · exact HI.out.2.2.2.2.2.2 hch k (by omega) hr
                                                case measure => exact meas hlt
                      · as_aux_lemma =>
                          obtain rfl : L = i := (last hi hlt).symm
                          go_wp2
                          go_roundg (leftF every A' O' + (if ch then 1 else 0))
                          case measure =>
                            have h1 := HR.out.2.2.2.2.2
                            simp only [if_true] at h1
                            have h2 := HI.out.2.2.2.2.1
                            cases ch with
                            | true =>
                              have h3 := HI.out.2.2.2.2.2.1 rfl
                              rw [if_pos rfl]
                              omega
                            | false =>
                              rw [if_neg (by simp)]
                              omega
                          case rel =>
                            obtain ⟨hfx, hA, hO, hb, hle, hls, hse⟩ := HI.out
                            exact ⟨ch, A', O', rfl, hfx, hse, hA, hO, hb, rfl⟩
                | false =>
                  as_aux_lemma =>
                    have e3 := (H4.out.2.2.2.1.below HR.out.2.2.2.2.1 H4.out.2.2.2.1.lt).cell 3
                    simp at e3
                    obtain ⟨wz, rfl⟩ : ∃ wz : World, wz = wr := ⟨_, rfl⟩
                    have hmk := make_rows3 L hL1
                    go_upto_region 45 with fail
                    clear hmk e3
                    obtain ⟨bZ, hbZ⟩ : ∃ k, k = wz.heap.size := ⟨_, rfl⟩
                    obtain ⟨w8, hw8⟩ : ∃ w8, w8 = wz.alloc (.cells (Array.replicate L (.slice none 0 0)) 44) := ⟨_, rfl⟩
                    rw [← hw8, ← hbZ]
                    have H8 : Go.RowKit.Hid (ZSp w8 bZ V (fun i => stL g n C false i (rowA A i)) 0 ∧ Below wz.heap.size wz w8 ∧ wz.heap.size ≤ bZ) := Lib.hid (by
                      refine ⟨⟨List.replicate L (.slice none 0 0), ?_, by rw [List.length_replicate, HV.out.1], fun i hi => ⟨.slice none 0 0, by rw [List.getElem?_replicate, if_pos (by rw [← HV.out.1]; exact hi)], fun h => absurd h.1 (Nat.not_lt_zero _), fun _ => rfl⟩⟩, ?_, by omega⟩
                      · rw [hw8, hbZ, ← List.toArray_replicate]
                        exact Bx.new wz 44 (List.replicate L (.slice none 0 0))
                      · rw [hw8]
                        exact (Below.refl _ _).alloc (Nat.le_refl _) _)
                    clear hw8 hbZ
                    obtain ⟨i5, hi5, hz5, hs5, hb5⟩ := info_parts infoRow
                    have HI5 := Lib.hid (And.intro hi5 (And.intro hz5 (And.intro hs5 hb5)))
                    clear hi5 hz5 hs5 hb5
                    go_wp2
                    go_loopw [27] (fun u wr => ∃ i : Nat, i ≤ L ∧ u = .int .i64 i ∧ ZSp wr bZ V (fun i => stL g n C false i (rowA A i)) i ∧ Below wz.heap.size wz wr) (fun u _ => L - (intOf u).toNat)
                    case atStart => exact ⟨0, Nat.zero_le _, rfl, H8.out.1, H8.out.2.1⟩
                    case round =>
                      obtain ⟨i, hi, rfl, hzs, hbz⟩ := hrel
                      obtain ⟨wi, rfl⟩ : ∃ wi : World, wi = wr := ⟨_, rfl⟩
                      have HI := Lib.hid (And.intro hzs hbz)
                      clear hzs hbz
                      by_cases hlt : i < L
                      · as_aux_lemma =>
                          have hb4i : Below w4.heap.size w4 wi := HR.out.2.2.2.2.1.trans (HI.out.2.mono HR.out.2.2.2.2.1.size)
                          have cR := (H4.out.2.2.2.2.1.below hb4i H4.out.2.2.2.2.1.lt).cell i
                          rw [bC_get (by rw [HV.out.1]; exact hlt)] at cR
                          obtain ⟨x, hx⟩ : ∃ x, x = V[i]?.getD false := ⟨_, rfl⟩
                          rw [← hx] at cR
                          have HX := Lib.hid (And.intro hx hb4i)
                          clear hx hb4i
                          cases x with
                          | false =>
                            as_aux_lemma =>
                              go_wp2
                              go_roundw
                              case rel =>
                                obtain ⟨⟨us, z1, z2, z3⟩, hbz⟩ := HI.out
                                refine ⟨i + 1, hlt, nxt _, ⟨us, z1, z2, fun k hk => ?_⟩, hbz⟩
                                obtain ⟨u, a1, a2, a3⟩ := z3 k hk
                                have hne : bitF V k = true → k ≠ i := fun h e => by
                                  subst e
                                  have h2 : V[k]?.getD false = true := h
                                  rw [← HX.out.1] at h2
                                  cases h2
                                exact ⟨u, a1, fun h => a2 ⟨by have := hne h.2; omega, h.2⟩, fun h => a3 (fun h2 => h ⟨by omega, h2.2⟩)⟩
                              case measure => exact meas hlt
                          | true =>
                            as_aux_lemma =>
                              have hri : Rch g i := (HV.out.2 i hlt).1 HX.out.1.symm
                              have hig : i < g.length := rch_lt hri
                              have hiA : i < A.length := by rw [HR.out.1.la]; exact hig
                              obtain ⟨rA, cA, exA, dA, -, bA'⟩ := (HR.out.2.2.1.below HI.out.2).at hiA
                              have lA : (rowA A i).length = n := HR.out.1.ra i hig
                              rw [lA] at dA
                              obtain ⟨us, z1, z2, z3⟩ := HI.out.1
                              obtain ⟨u0, a1, -, a3⟩ := z3 i (by rw [HV.out.1]; exact hlt)
                              have hu0 := a3 (fun h => absurd h.1 (Nat.lt_irrefl _))
                              subst hu0
                              have cZ : wi.cell? ⟨bZ, i, none⟩ = some (.slice none 0 0) := by rw [z1.cell]; exact a1
                              have hus : us.set i (.slice none 0 0) = us := List.ext_getElem? fun k => by
                                by_cases e : i = k
                                · subst e
                                  rw [List.getElem?_set_self (List.getElem?_eq_some_iff.1 a1).1, a1]
                                · rw [List.getElem?_set_ne e]
                              obtain ⟨m, hm⟩ : ∃ m, m = insR g i := ⟨_, rfl⟩
                              have hm1 : m ≤ 1000 := by rw [hm]; exact (HA.out.2.1.2 i).1
                              have HZ := Lib.hid (And.intro z1 (And.intro z2 (And.intro z3 (And.intro hus (And.intro bA' (And.intro lA (And.intro hm hig)))))))
                              clear z1 z2 z3 a1 a3 hus bA' lA hm hri hig hiA
                              go_upto_region 50 with fail
                              go_wp2_with (at_builtin; refine wpList_append_own_at _ rfl (.tmp 226) (.tmp 228) 44 rfl wi.heap.size 26 i5 _ 1 24 Try.underlying44 HI5.out.1 HI5.out.2.1 HI5.out.2.2.1 HI5.out.2.2.2 rfl (by decide) (.slice none 0 0) 0 [] rfl (World.ownsRow_nil _ _ _ _) ⟨_, 0, none⟩ 1 1 [.slice (some ⟨rA, 0, none⟩) n cA] rfl rfl ?c1 ?c2 ?c3 ?c4 ?c5 ?_)
                              try case c1 => exact new_cells _ [.slice (some ⟨rA, 0, none⟩) n cA] _
                              try case c2 => first | rfl | (intro u hu; simp at hu; subst hu; rfl)
                              try case c3 => unfold maxLen; omega
                              try case c4 => omega
                              try case c5 => simp
                              intro v' w9 hown hg hnil hat
                              have hne0 : v' ≠ .slice none 0 0 := fun e => by
                                have := hnil e
                                first | omega | exact absurd this (by simp)
                              obtain ⟨gA1, cA1, exA1, rfl, -, -, -⟩ := own_bx hown hne0
                              clear hne0
                              have HQ : Go.RowKit.Hid (ZIn wi bZ i us (fun j => runB g n C i ((alongL false m).take j) (rowA A i)) 0 (.slice (some ⟨rA, 0, none⟩) n cA) (w9.setCell ⟨bZ, i, none⟩ (.slice (some ⟨gA1, 0, none⟩) 1 cA1)) ∧ Bx w9 bZ 44 us) := Lib.hid (by
                                obtain ⟨z1, z2, z3, hus, bA', lA, -⟩ := HZ.out
                                have hne : (Value.slice (some ⟨gA1, 0, none⟩) 1 cA1) ≠ .slice none 0 0 := fun e => by cases e
                                have hk9 : Kep (fun b => (Value.slice none 0 0).ownBlock = some b) wi w9 := ((Kep.refl _ wi).alloc _).grown hg (fun q hq => .inr hq)
                                refine ⟨ZIn.push (k := 0) (vs := []) (Kep.refl _ wi) (by rw [hus]; exact z1) (World.ownsRow_nil _ _ _ _) (fun j hj => absurd hj (Nat.not_lt_zero _)) ⟨rA, cA, exA, ?_, ?_⟩ (by simpa using hown) hg hne, z1.kep hk9 (fun h => by cases h)⟩
                                · show _ = Value.slice _ (rowA A i).length _
                                  rw [lA]
                                · exact bA')
                              have fZ9 := HQ.out.2.frozen i
                              have hul : i < us.length := by rw [HZ.out.2.1, HV.out.1]; exact hlt
                              obtain ⟨vz9, cZ9⟩ : ∃ v, w9.cell? ⟨bZ, i, none⟩ = some v := ⟨us[i]'hul, by rw [HQ.out.2.cell, List.getElem?_eq_getElem hul]⟩
                              clear hown hg hnil hat cZ dA cR hul
                              go_upto_region 51 with fail
                              obtain ⟨wA, hwA⟩ : ∃ wA, wA = w9.setCell ⟨bZ, i, none⟩ (.slice (some ⟨gA1, 0, none⟩) 1 cA1) := ⟨_, rfl⟩
                              rw [← hwA]
                              have HZI : Go.RowKit.Hid (ZIn wi bZ i us (fun j => runB g n C i ((alongL false m).take j) (rowA A i)) 0 (.slice (some ⟨rA, 0, none⟩) n cA) wA) := Lib.hid (by
                                rw [hwA]
                                exact HQ.out.1)
                              clear HQ cZ9 fZ9 hwA
                              have hn0 := HA.out.2.2.2.2.2.1
                              have hbwi : Below w.heap.size w wi := H4.out.2.2.1.trans (HX.out.2.mono H4.out.2.2.1.size)
                              have hx4 := H4.out.2.2.2.1.below HX.out.2 H4.out.2.2.2.1.lt
                              obtain ⟨bl, fl, hoa, hbl, hrow⟩ := HA.out.1 (by show 0 < g.length; have := HZ.out.2.2.2.2.2.2.2; omega)
                              have hoa' : oa = some ⟨bl, fl, none⟩ := hoa
                              subst hoa'
                              obtain ⟨⟨ia, ic, cB⟩, -⟩ := hrow i HZ.out.2.2.2.2.2.2.2
                              rw [← HZ.out.2.2.2.2.2.2.1] at cB
                              have hbZi : wz.heap.size ≤ bZ := H8.out.2.2
                              have HKB : Go.RowKit.Hid (∀ W, Kep (fun b => b = bZ) wi W → Below wz.heap.size wz W) := Lib.hid (fun W h => HI.out.2.trans (h.to_below HI.out.2.size (fun k hk e => by omega)))
                              have HCB : Go.RowKit.Hid (∀ W, Kep (fun b => b = bZ) wi W → W.cell? ⟨bl, fl + i * 17, none⟩ = some (.slice ia m ic) ∧ W.cell? ⟨s, 3, none⟩ = some (.slice (some ⟨bl, fl, none⟩) L cap) ∧ Below w.heap.size w W) := Lib.hid (fun W h => by
                                have h1 := HKB.out W h
                                have h2 : Below w4.heap.size w4 W := HR.out.2.2.2.2.1.trans (h1.mono HR.out.2.2.2.2.1.size)
                                have h3 : Below w.heap.size w W := H4.out.2.2.1.trans (h2.mono H4.out.2.2.1.size)
                                exact ⟨below_cell h3 cB, by
                                  have := (H4.out.2.2.2.1.below h2 H4.out.2.2.2.1.lt).cell 3
                                  simpa using this, h3⟩)
                              have HOK : Go.RowKit.Hid (∀ k : Nat, k < m + 1 → okS g (i : Int) (k : Int) = true) := Lib.hid (fun k hk => by
                                have h1 := HZ.out.2.2.2.2.2.2.1
                                have h2 := HZ.out.2.2.2.2.2.2.2
                                simp [okS, isPl]
                                omega)
                              clear hn0 hbwi hx4 hoa hbl hrow cB hbZi
                              go_wp2
                              go_loopw [28, 29] (fun ue uk wr => ∃ k : Nat, k ≤ m + 1 ∧ uk = .int .i64 k ∧ ZIn wi bZ i us (fun j => runB g n C i ((alongL false m).take j) (rowA A i)) k ue wr) (fun _ uk _ => m + 1 - (intOf uk).toNat)
                              case atStart => exact ⟨0, Nat.zero_le _, rfl, HZI.out⟩
                              case round =>
                                obtain ⟨k, hk, rfl, hzi⟩ := hrel
                                obtain ⟨wq, rfl⟩ : ∃ wq : World, wq = wr := ⟨_, rfl⟩
                                obtain ⟨u, vs, hkp, hzb, hwn, hnn, hrs, hnow⟩ := hzi
                                obtain ⟨cB, e3, -⟩ := HCB.out wq hkp
                                have hul : i < us.length := by rw [HZ.out.2.1, HV.out.1]; exact hlt
                                have HB := Lib.hid (And.intro hkp (And.intro hzb (And.intro hwn (And.intro hnn (And.intro hrs (And.intro hnow hul))))))
                                clear hkp hzb hwn hnn hrs hnow hul
                                by_cases hlk : k < m + 1
                                · as_aux_lemma =>
                                    have HST : Go.RowKit.Hid (Calls Try.prog 35 #[u28, .slice oc kC capC, .int .i64 (i : Int), .int .i64 (k : Int)] wq fun e w' => ∃ v', e = .returned v' ∧ NBR wq w' v' (runB g n C i ((alongL false m).take (k + 1)) (rowA A i)) ∧ Below wq.heap.size wq w') := Lib.hid (by
                                      obtain ⟨-, -, -, hC, hcs, hn0, -, -, hnC, -⟩ := HA.out
                                      have hbw := (HCB.out wq HB.out.1).2.2
                                      have h := rstep_any n0 oc capC C i k u28 n _ wq (hC.below hbw hn0) hcs.2 (by omega) (Nat.le_trans hn0 hbw.size) hn1 (by rw [runB_len, HZ.out.2.2.2.2.2.1]) HB.out.2.2.2.2.2.1
                                      rw [aftF_step (HOK.out k hlk), ← hnC] at h
                                      have e : runB g n C i ((alongL false m).take (k + 1)) (rowA A i) = stepF g n C i k (runB g n C i ((alongL false m).take k) (rowA A i)) := by
                                        rw [runB_take _ _ _ _ (by simp [alongL]; omega), stepF]
                                        simp [alongF]
                                      rw [e]
                                      exact h)
                                    obtain ⟨ou, cu, rfl, -⟩ := own_parts HB.out.2.2.1
                                    go_upto_region 55 with (go_at_call 35; refine HST.out.mono ?_; clear HST; rintro e wx ⟨v', rfl, hnb, hbx⟩; have HQ := Lib.hid (And.intro hnb hbx); clear hnb hbx)
                                    clear cB e3
                                    have HX2 : Go.RowKit.Hid (Kep (fun b => b = bZ) wi wx ∧ Bx wx bZ 44 (us.set i (.slice ou (k + 1) cu)) ∧ wx.ownsRow wi.heap.size 26 1 (.slice ou (k + 1) cu) (k + 1) vs ∧ (∀ j, j < k + 1 → ∃ v, vs[j]? = some v ∧ BRow wx v (runB g n C i ((alongL false m).take j) (rowA A i))) ∧ BRow wx v' (runB g n C i ((alongL false m).take (k + 1)) (rowA A i))) := Lib.hid (by
                                      obtain ⟨hkp, hzb, hwn, hnn, hrs, hnow, -⟩ := HB.out
                                      obtain ⟨hnb, hbx⟩ := HQ.out
                                      exact ⟨hkp.below hbx, hzb.below hbx hzb.lt, own_kep hwn (Kep.of_below (M := fun _ => False) hbx) (fun _ _ h => h), fun j hj => let ⟨v, b1, b2⟩ := hrs j hj; ⟨v, b1, b2.below hbx⟩, hnb.brow⟩)
                                    obtain ⟨rv, cv, exv, hv', -⟩ := HX2.out.2.2.2.2
                                    rw [runB_len, HZ.out.2.2.2.2.2.1] at hv'
                                    subst hv'
                                    have cZ := HX2.out.2.1.cell i
                                    rw [List.getElem?_set_self HB.out.2.2.2.2.2.2] at cZ
                                    have hsz : wi.heap.size ≤ wx.heap.size := HX2.out.1.size
                                    go_wp2_with (at_builtin; refine wpList_append_own_at _ rfl (.tmp 252) (.tmp 254) 44 rfl wi.heap.size 26 i5 _ 1 24 Try.underlying44 HI5.out.1 HI5.out.2.1 HI5.out.2.2.1 HI5.out.2.2.2 rfl (by decide) (.slice ou (k + 1) cu) (k + 1) vs rfl (HX2.out.2.2.1.alloc _) ⟨_, 0, none⟩ 1 1 [.slice (some ⟨rv, 0, none⟩) n cv] rfl rfl ?c6 ?c7 ?c8 ?c9 ?c10 ?_)
                                    try case c6 => exact new_cells _ [.slice (some ⟨rv, 0, none⟩) n cv] _
                                    try case c7 => first | rfl | (intro u hu; simp at hu; subst hu; rfl)
                                    try case c8 => unfold maxLen; omega
                                    try case c9 => omega
                                    try case c10 => simp; omega
                                    intro v2 w9 hown hg hnil hat
                                    have hne0 : v2 ≠ .slice none 0 0 := fun e => by
                                      have := hnil e
                                      first | omega | exact absurd this (by simp)
                                    obtain ⟨gA2, cA2, exA2, rfl, -, -, -⟩ := own_bx hown hne0
                                    clear hne0
                                    have HQ2 : Go.RowKit.Hid (ZIn wi bZ i us (fun j => runB g n C i ((alongL false m).take j) (rowA A i)) (k + 1) (.slice (some ⟨rv, 0, none⟩) n cv) (w9.setCell ⟨bZ, i, none⟩ (.slice (some ⟨gA2, 0, none⟩) (k + 1 + 1) cA2)) ∧ Bx w9 bZ 44 (us.set i (.slice ou (k + 1) cu))) := Lib.hid (by
                                      obtain ⟨x1, x2, x3, x4, x5⟩ := HX2.out
                                      have hne : (Value.slice (some ⟨gA2, 0, none⟩) (k + 1 + 1) cA2) ≠ .slice none 0 0 := fun e => by cases e
                                      have hk9 : Kep (fun b => (Value.slice ou (k + 1) cu).ownBlock = some b) wx w9 := ((Kep.refl _ wx).alloc _).grown hg (fun q hq => .inr hq)
                                      exact ⟨ZIn.push (k := k + 1) x1 x2 x3 x4 x5 (by simpa using hown) hg hne, x2.kep hk9 (fun h => own_ne x3 x2 (fun cs fr e => by cases e) h)⟩)
                                    have cZ9 := HQ2.out.2.cell i
                                    have fZ9 := HQ2.out.2.frozen i
                                    rw [List.getElem?_set_self HB.out.2.2.2.2.2.2] at cZ9
                                    clear hown hg hnil hat cZ hsz
                                    go_wp2
                                    go_roundw
                                    case rel => exact ⟨k + 1, hlk, nxt _, HQ2.out.1⟩
                                    case measure => exact meas hlk
                                · as_aux_lemma =>
                                    obtain rfl : k = m + 1 := last hk hlk
                                    go_wp2
                                    go_roundw
                                    case rel =>
                                      obtain ⟨hkp, hzb, hwn, hnn, hrs, hnow, hul⟩ := HB.out
                                      obtain ⟨z1, z2, z3, -, -, lA, hm, hig⟩ := HZ.out
                                      have hrr := StJ.row (st := fun j => runB g n C i ((alongL false m).take j) (rowA A i)) hwn hnn hrs
                                      have hfar : Far wi (fun b => b = bZ) := fun b hb2 => .inr ⟨_, _, hb2 ▸ z1, by decide, by decide⟩
                                      refine ⟨i + 1, hlt, nxt _, ⟨us.set i u, hzb, by rw [List.length_set]; exact z2, fun q hq => ?_⟩, HKB.out _ hkp⟩
                                      by_cases e : i = q
                                      · subst e
                                        refine ⟨u, List.getElem?_set_self hul, fun _ => ?_, fun h => absurd ⟨Nat.lt_succ_self _, HX.out.1.symm⟩ h⟩
                                        have e2 : stL g n C false i (rowA A i) = (List.range (m + 1 + 1)).map fun j => runB g n C i ((alongL false m).take j) (rowA A i) := by
                                          rw [stL, ← hm, show (alongL false m).length = m + 1 by simp [alongL]]
                                        show RRow wq u (stL g n C false i (rowA A i))
                                        rw [e2]
                                        exact hrr
                                      · obtain ⟨v, a1, a2, a3⟩ := z3 q hq
                                        exact ⟨v, by rw [List.getElem?_set_ne e]; exact a1, fun h => (a2 ⟨by omega, h.2⟩).far hkp hfar, fun h => a3 (fun h2 => h ⟨by omega, h2.2⟩)⟩
                                    case measure => exact meas hlt
                      · as_aux_lemma =>
                          obtain rfl : L = i := (last hi hlt).symm
                          go_wp2
                          go_ret
                          have hL := HLL.out
                          have hbw := H4.out.2.2.1
                          have hb1 : Below w.heap.size w wi := hbw.trans ((HR.out.2.2.2.2.1.trans (HI.out.2.mono HR.out.2.2.2.2.1.size)).mono hbw.size)
                          have hrd := HI.out.1.rd (by rw [HV.out.1]; exact Nat.le_refl _)
                          rw [HV.out.1] at hrd
                          exact ⟨_, _, rfl, hb1, hrd, HR.out.1.fls (by rw [← hL]; exact HR.out.2.1 (by first | rfl | trivial)) (by rw [HV.out.1, hL]) (fun k hk => HV.out.2 k (by omega))⟩
end Go.Proofs.Ytfpdecjlfnambaa
