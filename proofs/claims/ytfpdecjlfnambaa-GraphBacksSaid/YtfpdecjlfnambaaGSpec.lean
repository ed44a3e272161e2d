/-
  Graph: what Flow and Back come to, as plain lists. Conditions: as theirs.
-/
import Derived.Test.YtfpdecjlfnambaaGFlow
import Derived.Test.YtfpdecjlfnambaaGFlow0
import Derived.Test.YtfpdecjlfnambaaGBack
namespace Go.Proofs.Ytfpdecjlfnambaa
open Go Go.RowKit

/-- A row of bools, of rows, of rows of rows, as they are read. -/
def Rd1 (w : World) (v : Value) (l : List Bool) : Prop :=
  ∃ oa cap, v = .slice oa l.length cap ∧ (0 < l.length → ∃ b off, oa = some ⟨b, off, none⟩ ∧ ∀ j, j < l.length → w.cell? ⟨b, off + j, none⟩ = some (.bool (l[j]?.getD false)))
def Rd2 (w : World) (v : Value) (l : List (List Bool)) : Prop :=
  ∃ oa cap, v = .slice oa l.length cap ∧ (0 < l.length → ∃ b off, oa = some ⟨b, off, none⟩ ∧ ∀ j, j < l.length → ∃ u, w.cell? ⟨b, off + j, none⟩ = some u ∧ Rd1 w u (l[j]?.getD []))
def Rd3 (w : World) (v : Value) (l : List (List (List Bool))) : Prop :=
  ∃ oa cap, v = .slice oa l.length cap ∧ (0 < l.length → ∃ b off, oa = some ⟨b, off, none⟩ ∧ ∀ j, j < l.length → ∃ u, w.cell? ⟨b, off + j, none⟩ = some u ∧ Rd2 w u (l[j]?.getD []))
theorem Rd1.below {w w' : World} {v : Value} {l : List Bool} (h : Rd1 w v l) (hB : Below w.heap.size w w') : Rd1 w' v l := by
  obtain ⟨oa, cap, h1, h2⟩ := h
  refine ⟨oa, cap, h1, fun hl => ?_⟩
  obtain ⟨b, off, h3, h4⟩ := h2 hl
  exact ⟨b, off, h3, fun j hj => below_cell hB (h4 j hj)⟩
theorem Rd2.below {w w' : World} {v : Value} {l : List (List Bool)} (h : Rd2 w v l) (hB : Below w.heap.size w w') : Rd2 w' v l := by
  obtain ⟨oa, cap, h1, h2⟩ := h
  refine ⟨oa, cap, h1, fun hl => ?_⟩
  obtain ⟨b, off, h3, h4⟩ := h2 hl
  refine ⟨b, off, h3, fun j hj => ?_⟩
  obtain ⟨u, h5, h6⟩ := h4 j hj
  exact ⟨u, below_cell hB h5, h6.below hB⟩
theorem Rd3.below {w w' : World} {v : Value} {l : List (List (List Bool))} (h : Rd3 w v l) (hB : Below w.heap.size w w') : Rd3 w' v l := by
  obtain ⟨oa, cap, h1, h2⟩ := h
  refine ⟨oa, cap, h1, fun hl => ?_⟩
  obtain ⟨b, off, h3, h4⟩ := h2 hl
  refine ⟨b, off, h3, fun j hj => ?_⟩
  obtain ⟨u, h5, h6⟩ := h4 j hj
  exact ⟨u, below_cell hB h5, h6.below hB⟩
theorem BRow.rd {w : World} {v : Value} {st : List Bool} (h : BRow w v st) : Rd1 w v st := by
  obtain ⟨r, cap, ex, rfl, hb⟩ := h
  exact ⟨_, cap, rfl, fun _ => ⟨r, 0, rfl, fun j hj => by rw [Nat.zero_add, hb.cell]; exact bC_at hj⟩⟩
theorem RRow.rd {w : World} {u : Value} {S : List (List Bool)} (h : RRow w u S) : Rd2 w u S := by
  obtain ⟨g, cap, vs, ex, rfl, hb, hl, hv⟩ := h
  refine ⟨_, cap, rfl, fun _ => ⟨g, 0, rfl, fun j hj => ?_⟩⟩
  obtain ⟨v, h1, h2⟩ := hv j hj
  exact ⟨v, by rw [Nat.zero_add, hb.cell, List.getElem?_append_left (by omega)]; exact h1, h2.rd⟩
/-- The answer that the states make. -/
def stZ (V : List Bool) (S : Nat → List (List Bool)) : List (List (List Bool)) := (List.range V.length).map fun i => if bitF V i then S i else []
theorem stZ_len (V : List Bool) (S : Nat → List (List Bool)) : (stZ V S).length = V.length := by simp [stZ]
theorem stZ_at {V : List Bool} {S : Nat → List (List Bool)} {i : Nat} (h : i < V.length) : (stZ V S)[i]?.getD [] = if bitF V i then S i else [] := by
  simp [stZ, List.getElem?_map, List.getElem?_range h]
theorem StK.rd {w : World} {bl : Nat} {V : List Bool} {S : Nat → List (List Bool)} (h : StK w bl V (ones V).length S) : Rd3 w (.slice (some ⟨bl, 0, none⟩) V.length V.length) (stZ V S) := by
  obtain ⟨us, h1, h2, h3⟩ := h
  refine ⟨_, V.length, by rw [stZ_len], fun _ => ⟨bl, 0, rfl, fun i hi => ?_⟩⟩
  rw [stZ_len] at hi
  obtain ⟨u, a1, a2, a3⟩ := h3 i hi
  refine ⟨u, by rw [Nat.zero_add, h1.cell]; exact a1, ?_⟩
  rw [stZ_at hi]
  rw [List.take_length] at a2 a3
  by_cases hb : bitF V i = true
  · rw [if_pos hb]
    exact (a2 (ones_iff.2 ⟨hi, hb⟩)).rd
  · rw [if_neg hb, a3 (fun hm => hb (ones_iff.1 hm).2)]
    exact ⟨none, 0, rfl, fun h => absurd h (by simp)⟩

/-- What stands in an answer. -/
abbrev rowZ (Z : List (List (List Bool))) (i : Nat) : List (List Bool) := Z[i]?.getD []
abbrev stateZ (Z : List (List (List Bool))) (i k : Nat) : List Bool := (rowZ Z i)[k]?.getD []
abbrev valZ (Z : List (List (List Bool))) (i k j : Nat) : Bool := (stateZ Z i k)[j]?.getD false
/-- A step's making. -/
def stepF (g : Gb) (n : Nat) (C : List Chg) (i k : Nat) (st : List Bool) : List Bool := hapF (rlF g n C ((i : Int), (k : Int), true)) (rlF g n C ((i : Int), (k : Int), false)) st
/-- Where a flag is so first. -/
abbrev SpZ (g : Gb) (n : Nat) (C : List Chg) (st : List Bool) (every : Bool) (j : Nat) : Nat → Prop :=
  Sp (Rch g) (fun i => ((if i = 0 then iniF st n else List.replicate n every)[j]?.getD false == !every) = true) (tos g) (lvS (allF g n C false false) (allF g n C false true) (!every) j)
/-- What Flow tells. -/
structure FlS (g : Gb) (n : Nat) (C : List Chg) (st : List Bool) (every : Bool) (Z : List (List (List Bool))) : Prop where
  len : Z.length = g.length
  un : ∀ i, i < g.length → ¬ Rch g i → rowZ Z i = []
  cnt : ∀ i, Rch g i → (rowZ Z i).length = insR g i + 2
  row : ∀ i k, Rch g i → k < insR g i + 2 → (stateZ Z i k).length = n
  step : ∀ i k, Rch g i → k < insR g i + 1 → stateZ Z i (k + 1) = stepF g n C i k (stateZ Z i k)
  first : ∀ i j, Rch g i → j < n → (valZ Z i 0 j = (!every) ↔ SpZ g n C st every j i)
theorem rch_lt {g : Gb} {i : Nat} (h : Rch g i) : i < g.length := by
  cases h with
  | base h1 h2 => exact h1
  | all h1 h2 h3 => exact tos_lt h3
  | pass h1 h2 h3 h4 => exact tos_lt h4
theorem alongF (s : Nat) : alongL false s = List.range (s + 1) := by
  simp [alongL]
theorem stL_len (g : Gb) (n : Nat) (C : List Chg) (back : Bool) (i : Nat) (st : List Bool) : (stL g n C back i st).length = insR g i + 2 := by simp [stL, alongL]
theorem stL_at (g : Gb) (n : Nat) (C : List Chg) (back : Bool) (i k : Nat) (st : List Bool) (h : k < insR g i + 2) : (stL g n C back i st)[k]?.getD [] = runB g n C i ((alongL back (insR g i)).take k) st := by
  rw [stL, List.getElem?_map, List.getElem?_range (by simp [alongL]; omega)]
  rfl
theorem sp_congr {ok ok' base base' : Nat → Prop} {next : Nat → List Nat} {lvs : Nat → Bool → Bool} (h1 : ∀ i, ok i → ok' i) (h2 : ∀ i, ok i → base i → base' i) : ∀ i, Sp ok base next lvs i → Sp ok' base' next lvs i := fun i h => by
  induction h with
  | base a b => exact .base (h1 _ a) (h2 _ a b)
  | all a b c => exact .all (h1 _ a) b c
  | pass a _ c d ih => exact .pass (h1 _ a) ih c d
theorem FlS.of {g : Gb} {n : Nat} {C : List Chg} {st V : List Bool} {every : Bool} {F : Nat → List Bool} (hl : V.length = g.length) (hV : ∀ i, i < g.length → (bitF V i = true ↔ Rch g i)) (hF : ∀ i ∈ ones V, (F i).length = n) (hE : FlowF g n C V st every F) : FlS g n C st every (stZ V (fun i => stO g n C false i (F i))) := by
  obtain ⟨E, e1, e2, e3, e4, e5, e6, hS⟩ := hE
  have hr : ∀ i, Rch g i → i < V.length ∧ bitF V i = true := fun i h => ⟨by have := rch_lt h; omega, (hV i (rch_lt h)).2 h⟩
  have hm : ∀ i, i ∈ ones V ↔ Rch g i := fun i => by
    rw [ones_iff]
    exact ⟨fun ⟨h1, h2⟩ => (hV i (by omega)).1 h2, hr i⟩
  have hrow : ∀ i, Rch g i → rowZ (stZ V (fun i => stO g n C false i (F i))) i = stL g n C false i (F i) := fun i h => by
    rw [rowZ, stZ_at (hr i h).1, if_pos (hr i h).2]
    rfl
  refine ⟨by rw [stZ_len, hl], fun i hi hn => ?_, fun i h => by rw [hrow i h, stL_len], fun i k h hk => ?_, fun i k h hk => ?_, fun i j h hj => ?_⟩
  · rw [rowZ, stZ_at (by omega), if_neg (fun hb => hn ((hV i hi).1 hb))]
  · rw [stateZ, hrow i h, stL_at _ _ _ _ _ _ _ hk, runB_len, hF i ((hm i).2 h)]
  · rw [stateZ, stateZ, hrow i h, stL_at _ _ _ _ _ _ _ (by omega), stL_at _ _ _ _ _ _ _ (by omega), runB_take _ _ _ _ (by simp [alongL]; omega), stepF]
    simp [alongF]
  · have h1 := (hS i (by rw [e1]; exact (hm i).2 h) j (by rw [e2]; exact hj)).1 hj
    rw [valZ, stateZ, hrow i h, stL_at _ _ _ _ _ _ _ (by omega)]
    rw [e3] at h1
    have e : ∀ b : Bool, (b == !every) = true ↔ b = (!every) := fun b => by simp
    simp only [colF, e] at h1
    show (F i)[j]?.getD false = (!every) ↔ _
    rw [h1, SpF, e3, e4, e5, e6, e1]
    exact ⟨sp_congr (fun i h => (hm i).1 h) (fun _ _ h => h) i, sp_congr (fun i h => (hm i).2 h) (fun _ _ h => h) i⟩
/-- Flow's answer. -/
def FlowZ (g : Gb) (n : Nat) (C : List Chg) (st : List Bool) (every : Bool) (w : World) (e : Ending) (w' : World) : Prop :=
  ∃ v Z, e = .returned v ∧ Below w.heap.size w w' ∧ Rd3 w' v Z ∧ FlS g n C st every Z
theorem flowZ_any (n0 : Nat) (B : Bv) (ni : Int) (oS : Option Addr) (capS : Nat) (start : List Bool) (oc : Option Addr) (capC : Nat) (C : List Chg) (every : Bool) (w : World) (hB : B.At n0 w) (hs : B.Small) (hS : BSrc n0 w oS start) (hC : CRow n0 w oc C) (hcs : CSmall C) (hn : ni.toNat ≤ 1000) (hst : start.length ≤ 1000) (hn0 : n0 ≤ w.heap.size) :
    Calls Try.prog 13 #[B.v, .int .i64 ni, .slice oS start.length capS, .slice oc C.length capC, .bool every] w fun e w' => FlowZ B.g ni.toNat C start every w e w' := by
  rcases Nat.eq_zero_or_pos B.g.length with h0 | h0
  · have hg := List.eq_nil_of_length_eq_zero h0
    refine (flow_none B hg _ _ _ _ w).mono ?_
    rintro e w' ⟨rfl, hb⟩
    have hno : ∀ i, ¬ Rch B.g i := fun i h => by have := rch_lt h; omega
    exact ⟨_, [], rfl, hb, ⟨none, 0, rfl, fun h => absurd h (by simp)⟩, ⟨h0.symm, fun i hi => by omega, fun i h => (hno i h).elim, fun i _ h => (hno i h).elim, fun i _ h => (hno i h).elim, fun i _ h => (hno i h).elim⟩⟩
  · refine (flow_any n0 B ni ni.toNat oS capS start oc capC C every w rfl hB hs hS hC hcs hn hst hn0 h0).mono ?_
    rintro e w' ⟨bl, V, F, rfl, hb, hl, hV, hF, hE, hK⟩
    exact ⟨_, _, rfl, hb, hK.rd, FlS.of hl hV hF hE⟩

/-- Where a flag is needed behind a block's end. -/
abbrev SpB (g : Gb) (n : Nat) (C : List Chg) (j : Nat) : Nat → Prop :=
  Sp (fun i => i < g.length) (fun _ => False) (prdK g g.length) (lvS (allF g n C true false) (allF g n C true true) true j)
/-- What Back tells. -/
structure BkS (g : Gb) (n : Nat) (C : List Chg) (Z : List (List (List Bool))) : Prop where
  len : Z.length = g.length
  cnt : ∀ i, i < g.length → (rowZ Z i).length = insR g i + 2
  row : ∀ i k, i < g.length → k < insR g i + 2 → (stateZ Z i k).length = n
  step : ∀ i k, i < g.length → k < insR g i + 1 → stateZ Z i k = stepF g n C i k (stateZ Z i (k + 1))
  last : ∀ i j, i < g.length → j < n → (valZ Z i (insR g i + 1) j = true ↔ SpB g n C j i)
theorem BkS.of {g : Gb} {n : Nat} {C : List Chg} {F : Nat → List Bool} (hF : ∀ i ∈ ones (List.replicate g.length true), (F i).length = n) (hE : BackF g n C (List.replicate g.length true) F) : BkS g n C (stZ (List.replicate g.length true) (fun i => stO g n C true i (F i))) := by
  obtain ⟨E, e1, e2, e3, e4, e5, e6, hS⟩ := hE
  have hbit : ∀ i, i < g.length → bitF (List.replicate g.length true) i = true := fun i h => (ones_iff.1 (ones_all.2 h)).2
  have hrow : ∀ i, i < g.length → rowZ (stZ (List.replicate g.length true) (fun i => stO g n C true i (F i))) i = (stL g n C true i (F i)).reverse := fun i h => by
    rw [rowZ, stZ_at (by rw [List.length_replicate]; exact h), if_pos (hbit i h)]
    rfl
  have hst : ∀ i k, i < g.length → k < insR g i + 2 → stateZ (stZ (List.replicate g.length true) (fun i => stO g n C true i (F i))) i k = runB g n C i ((alongL true (insR g i)).take (insR g i + 1 - k)) (F i) := fun i k h hk => by
    rw [stateZ, hrow i h, List.getElem?_reverse (by rw [stL_len]; exact hk), stL_len, show insR g i + 2 - 1 - k = insR g i + 1 - k by omega, stL_at _ _ _ _ _ _ _ (by omega)]
  refine ⟨by rw [stZ_len, List.length_replicate], fun i h => by rw [hrow i h, List.length_reverse, stL_len], fun i k h hk => by rw [hst i k h hk, runB_len, hF i (ones_all.2 h)], fun i k h hk => ?_, fun i j h hj => ?_⟩
  · rw [hst i k h (by omega), hst i (k + 1) h (by omega), show insR g i + 1 - k = (insR g i + 1 - (k + 1)) + 1 by omega, runB_take _ _ _ _ (by simp [alongL]; omega), stepF]
    have e : ∀ hh, (alongL true (insR g i))[insR g i + 1 - (k + 1)]'hh = k := fun hh => by
      simp [alongL]
      omega
    rw [e]
  · have h1 := (hS i (by rw [e1]; exact ones_all.2 h) j (by rw [e2]; exact hj)).1 hj
    rw [valZ, hst i _ h (by omega), Nat.sub_self, List.take_zero]
    rw [e3] at h1
    show (F i)[j]?.getD false = true ↔ _
    have e : ∀ b : Bool, (b == true) = true ↔ b = true := fun b => by simp
    simp only [colF, e] at h1
    rw [h1, SpF, e3, e4, e5, e6, e1]
    refine ⟨sp_congr (fun i h => ones_all.1 h) (fun i _ h => ?_) i, sp_congr (fun i h => ones_all.2 h) (fun _ _ h => h.elim) i⟩
    simp only [colF, List.getElem?_replicate] at h
    split at h <;> simp at h
/-- Back's answer. -/
def BackZ (g : Gb) (n : Nat) (C : List Chg) (w : World) (e : Ending) (w' : World) : Prop :=
  ∃ v Z, e = .returned v ∧ Below w.heap.size w w' ∧ Rd3 w' v Z ∧ BkS g n C Z
theorem backZ_any (n0 : Nat) (B : Bv) (ni : Int) (oc : Option Addr) (capC : Nat) (C : List Chg) (w : World) (hB : B.At n0 w) (hs : B.Small) (hC : CRow n0 w oc C) (hcs : CSmall C) (hn : ni.toNat ≤ 1000) (hn0 : n0 ≤ w.heap.size) :
    Calls Try.prog 16 #[B.v, .int .i64 ni, .slice oc C.length capC] w fun e w' => BackZ B.g ni.toNat C w e w' := by
  rcases Nat.eq_zero_or_pos B.g.length with h0 | h0
  · have hg := List.eq_nil_of_length_eq_zero h0
    refine (back_none B hg _ _ w).mono ?_
    rintro e w' ⟨rfl, hb⟩
    exact ⟨_, [], rfl, hb, ⟨none, 0, rfl, fun h => absurd h (by simp)⟩, ⟨h0.symm, fun i hi => by omega, fun i _ hi => by omega, fun i _ hi => by omega, fun i _ hi => by omega⟩⟩
  · refine (back_any n0 B ni ni.toNat oc capC C w rfl hB hs hC hcs hn hn0 h0).mono ?_
    rintro e w' ⟨bl, F, rfl, hb, hF, hE, hK⟩
    have h := hK.rd
    rw [List.length_replicate] at h
    exact ⟨_, _, rfl, hb, h, BkS.of hF hE⟩
end Go.Proofs.Ytfpdecjlfnambaa
