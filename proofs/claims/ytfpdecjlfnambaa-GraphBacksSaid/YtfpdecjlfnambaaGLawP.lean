/-
  Graph's laws, their plain part. No conditions: lemmas.
-/
import Derived.Test.YtfpdecjlfnambaaGSpec
namespace Go.Proofs.Ytfpdecjlfnambaa
open Go Go.RowKit

theorem iniF_get (st : List Bool) (n j : Nat) (h : j < n) : (iniF st n)[j]?.getD false = st[j]?.getD false := by
  rw [iniF]
  by_cases hj : j < st.length
  · rw [List.getElem?_append_left (by simp; omega), List.getElem?_take_of_lt h]
  · rw [List.getElem?_append_right (by simp; omega), List.getElem?_replicate, List.getElem?_eq_none (Nat.le_of_not_lt hj)]
    split <;> rfl
theorem stepF_len (g : Gb) (n : Nat) (C : List Chg) (i k : Nat) (st : List Bool) : (stepF g n C i k st).length = st.length := hapF_len _ _ _
theorem stepF_get (g : Gb) (n : Nat) (C : List Chg) (i k : Nat) (st : List Bool) (j : Nat) (h : j < st.length) : (stepF g n C i k st)[j]?.getD false = if (rlF g n C ((i : Int), (k : Int), true)).any (fun t => t.toNat == j) then true else if (rlF g n C ((i : Int), (k : Int), false)).any (fun t => t.toNat == j) then false else st[j]?.getD false := hapF_get _ _ _ _ h
theorem stepF_mono (g : Gb) (n : Nat) (C : List Chg) (i k : Nat) {a b : List Bool} {j : Nat} (ha : j < a.length) (hb : j < b.length) (h : a[j]?.getD false = true → b[j]?.getD false = true) : (stepF g n C i k a)[j]?.getD false = true → (stepF g n C i k b)[j]?.getD false = true := by
  rw [stepF_get _ _ _ _ _ _ _ ha, stepF_get _ _ _ _ _ _ _ hb]
  split
  · exact fun h => h
  · split
    · exact fun h => h
    · exact h
section
variable {g : Gb} {n : Nat} {C : List Chg} {st : List Bool} {every : Bool} {Z : List (List (List Bool))}
/-- More that starts gives no less. -/
theorem more_plain {bo : List Bool} {X Y : List (List (List Bool))} (hX : FlS g n C st every X) (hY : FlS g n C bo every Y) (hm : ∀ j : Nat, st[j]?.getD false = true → bo[j]?.getD false = true) :
    ∀ i k j, Rch g i → k < insR g i + 2 → j < n → valZ X i k j = true → valZ Y i k j = true := by
  intro i k j hi hk hj
  induction k with
  | zero =>
    intro hx
    have hini : (iniF st n)[j]?.getD false = true → (iniF bo n)[j]?.getD false = true := by
      rw [iniF_get _ _ _ hj, iniF_get _ _ _ hj]
      exact hm j
    cases every with
    | false =>
      refine (hY.first i j hi hj).2 (sp_congr (fun _ h => h) (fun a _ hb => ?_) i ((hX.first i j hi hj).1 hx))
      by_cases e : a = 0
      · subst e
        simp only [if_pos, Bool.not_false, beq_iff_eq] at hb ⊢
        exact hini hb
      · simp only [if_neg e] at hb ⊢
        exact hb
    | true =>
      cases hy : valZ Y i 0 j
      · have h1 := (hY.first i j hi hj).1 hy
        have h2 : valZ X i 0 j = false := (hX.first i j hi hj).2 (sp_congr (fun _ h => h) (fun a _ hb => by
          by_cases e : a = 0
          · subst e
            simp only [if_pos, Bool.not_true, beq_iff_eq] at hb ⊢
            cases hs : (iniF st n)[j]?.getD false
            · rfl
            · rw [hini hs] at hb
              cases hb
          · simp only [if_neg e] at hb ⊢
            exact hb) i h1)
        rw [h2] at hx
        exact hx
      · rfl
  | succ k ih =>
    have ih := ih (by omega)
    rw [valZ, valZ, hX.step i k hi (by omega), hY.step i k hi (by omega)]
    exact stepF_mono _ _ _ _ _ (by rw [hX.row i k hi (by omega)]; exact hj) (by rw [hY.row i k hi (by omega)]; exact hj) ih
/-- A block's last state, of its first. -/
theorem FlS.run (h : FlS g n C st every Z) {i : Nat} (hi : Rch g i) : ∀ k, k < insR g i + 2 → stateZ Z i k = runB g n C i ((alongL false (insR g i)).take k) (stateZ Z i 0)
  | 0, _ => rfl
  | k + 1, hk => by
    rw [h.step i k hi (by omega), h.run hi k (by omega), runB_take _ _ _ _ (by simp [alongL]; omega), stepF]
    simp [alongF]
theorem FlS.end_ (h : FlS g n C st every Z) {i : Nat} (hi : Rch g i) {j : Nat} (hj : j < n) (so : Bool) : (valZ Z i (insR g i + 1) j == so) = lvS (allF g n C false false) (allF g n C false true) so j i (valZ Z i 0 j == so) := by
  have e : stateZ Z i (insR g i + 1) = runB g n C i (alongL false (insR g i)) (stateZ Z i 0) := by
    rw [h.run hi _ (by omega), List.take_of_length_le (by simp [alongL])]
  rw [valZ, e]
  have h0 := h.row i 0 hi (by omega)
  unfold lvS allF
  rcases runB_flag g n C i j hj (alongL false (insR g i)) with ⟨v, hv⟩ | hv
  · rw [hv _ h0, hv _ (by simp), hv _ (by simp)]
    cases so <;> simp
  · rw [hv _ h0, hv _ (by simp), hv _ (by simp)]
    simp only [List.getElem?_replicate, hj, if_true, Option.getD_some]
    cases so <;> cases hz : (stateZ Z i 0)[j]?.getD false <;> simp [hz]
/-- What a block's end leaves so, is so where it goes. -/
theorem FlS.go (h : FlS g n C st every Z) {i t : Nat} (hi : Rch g i) (ht : t ∈ tos g i) {j : Nat} (hj : j < n) (hv : valZ Z i (insR g i + 1) j = (!every)) : valZ Z t 0 j = (!every) := by
  have hrt : Rch g t := .pass (rch_lt hi) hi rfl ht
  refine (h.first t j hrt hj).2 ?_
  have e := h.end_ hi hj (!every)
  rw [hv] at e
  simp only [beq_self_eq_true] at e
  cases hz : (valZ Z i 0 j == !every) with
  | false =>
    rw [hz] at e
    exact .all hi e.symm ht
  | true =>
    rw [hz] at e
    exact .pass hi ((h.first i j hi hj).1 (by simpa using hz)) e.symm ht
theorem FlS.start (h : FlS g n C st every Z) (h0 : 0 < g.length) {j : Nat} (hj : j < n) (hv : st[j]?.getD false = (!every)) : valZ Z 0 0 j = (!every) :=
  (h.first 0 j (.base h0 rfl) hj).2 (.base (.base h0 rfl) (by
    rw [if_pos rfl, iniF_get _ _ _ hj, hv]
    simp))
/-- On a way, what is so lies between. -/
structure Way (g : Gb) (n : Nat) (S A : List (List (List Bool))) (at_ k : Nat) (now : List Bool) : Prop where
  rch : Rch g at_
  len : now.length = n
  some : ∀ j, j < n → now[j]?.getD false = true → valZ S at_ k j = true
  all : ∀ j, j < n → valZ A at_ k j = true → now[j]?.getD false = true
theorem Way.step {S A : List (List (List Bool))} (hS : FlS g n C st false S) (hA : FlS g n C st true A) {at_ k : Nat} {now : List Bool} (h : Way g n S A at_ k now) (hk : k < insR g at_ + 1) : Way g n S A at_ (k + 1) (stepF g n C at_ k now) := by
  refine ⟨h.rch, by rw [stepF_len, h.len], fun j hj => ?_, fun j hj => ?_⟩
  · rw [valZ, hS.step _ _ h.rch hk]
    exact stepF_mono _ _ _ _ _ (by rw [h.len]; exact hj) (by rw [hS.row _ _ h.rch (by omega)]; exact hj) (h.some j hj)
  · rw [valZ, hA.step _ _ h.rch hk]
    exact stepF_mono _ _ _ _ _ (by rw [hA.row _ _ h.rch (by omega)]; exact hj) (by rw [h.len]; exact hj) (h.all j hj)
theorem Way.go {S A : List (List (List Bool))} (hS : FlS g n C st false S) (hA : FlS g n C st true A) {at_ t : Nat} {now : List Bool} (h : Way g n S A at_ (insR g at_ + 1) now) (ht : t ∈ tos g at_) : Way g n S A t 0 now := by
  refine ⟨.pass (rch_lt h.rch) h.rch rfl ht, h.len, fun j hj hn => hS.go h.rch ht hj (h.some j hj hn), fun j hj hv => ?_⟩
  cases hn : now[j]?.getD false
  · have h1 : valZ A at_ (insR g at_ + 1) j = false := by
      cases hv2 : valZ A at_ (insR g at_ + 1) j
      · rfl
      · rw [h.all j hj hv2] at hn
        cases hn
    have h2 := hA.go h.rch ht hj h1
    rw [h2] at hv
    exact hv
  · rfl
theorem Way.start {S A : List (List (List Bool))} (hS : FlS g n C st false S) (hA : FlS g n C st true A) (h0 : 0 < g.length) {now : List Bool} (hl : now.length = n) (hn : ∀ j, j < n → now[j]?.getD false = st[j]?.getD false) : Way g n S A 0 0 now := by
  refine ⟨.base h0 rfl, hl, fun j hj h => hS.start h0 hj (by rw [← hn j hj]; exact h), fun j hj hv => ?_⟩
  rw [hn j hj]
  cases hs : st[j]?.getD false
  · have := hA.start h0 hj hs
    rw [this] at hv
    exact hv
  · rfl

/-- A change turned round. -/
def turnC (c : Chg) : Chg := ⟨c.b, c.s, c.kill.filter fun x => decide (x ∉ c.gen), c.gen⟩
theorem rlF_any {g : Gb} {n : Nat} {C : List Chg} {i k : Nat} {v : Bool} {j : Nat} : (rlF g n C ((i : Int), (k : Int), v)).any (fun t => t.toNat == j) = true ↔ okS g i k = true ∧ ∃ c ∈ C, c.b = i ∧ c.s = k ∧ j < n ∧ (j : Int) ∈ (if v then c.gen else c.kill) := by
  rw [List.any_eq_true]
  constructor
  · rintro ⟨t, ht, e⟩
    rw [rlF, List.mem_flatMap] at ht
    obtain ⟨c, hc, ht⟩ := ht
    split at ht
    · rename_i hcond
      simp only [Bool.and_eq_true, decide_eq_true_eq] at hcond
      obtain ⟨h1, h2, h3⟩ := hcond
      rw [okF, List.mem_filter] at ht
      have h4 := ht.2
      simp [isPl] at h4
      have h5 : t.toNat = j := by simpa using e
      have h6 : t = (j : Int) := by omega
      subst h6
      rw [h2, h3] at h1
      exact ⟨h1, c, hc, h2, h3, by omega, ht.1⟩
    · cases ht
  · rintro ⟨h1, c, hc, h2, h3, h4, h5⟩
    refine ⟨(j : Int), ?_, by simp⟩
    rw [rlF, List.mem_flatMap]
    refine ⟨c, hc, ?_⟩
    rw [h2, h3, h1]
    simp only [decide_true, Bool.and_self, if_true, and_self]
    rw [okF, List.mem_filter]
    exact ⟨h5, by simp [isPl]; omega⟩
theorem not_get (st : List Bool) (j : Nat) (h : j < st.length) : (st.map (!·))[j]?.getD false = !(st[j]?.getD false) := by
  rw [List.getElem?_map, List.getElem?_eq_getElem h]
  rfl
theorem ext_get {a b : List Bool} (hl : a.length = b.length) (h : ∀ j, j < a.length → a[j]?.getD false = b[j]?.getD false) : a = b := by
  refine List.ext_getElem hl fun j h1 h2 => ?_
  have := h j h1
  rwa [List.getElem?_eq_getElem h1, List.getElem?_eq_getElem h2] at this
/-- No two changes at one step. -/
def OnceC (C : List Chg) : Prop := ∀ a ∈ C, ∀ b ∈ C, a.b = b.b → a.s = b.s → a = b
theorem step_turn (hC : OnceC C) (i k : Nat) (st : List Bool) (hl : st.length = n) : stepF g n (C.map turnC) i k (st.map (!·)) = (stepF g n C i k st).map (!·) := by
  refine ext_get (by rw [stepF_len, List.length_map, List.length_map, stepF_len]) fun j hj => ?_
  rw [stepF_len, List.length_map] at hj
  rw [not_get _ _ (by rw [stepF_len]; exact hj), stepF_get _ _ _ _ _ _ _ (by rw [List.length_map]; exact hj), stepF_get _ _ _ _ _ _ _ hj, not_get _ _ hj]
  by_cases hG : (rlF g n C ((i : Int), (k : Int), true)).any (fun t => t.toNat == j) = true
  · obtain ⟨h1, c, hc, h2, h3, h4, h5⟩ := rlF_any.1 hG
    have hK' : (rlF g n (C.map turnC) ((i : Int), (k : Int), false)).any (fun t => t.toNat == j) = true := rlF_any.2 ⟨h1, turnC c, List.mem_map_of_mem hc, h2, h3, h4, h5⟩
    have hG' : ¬ (rlF g n (C.map turnC) ((i : Int), (k : Int), true)).any (fun t => t.toNat == j) = true := fun h => by
      obtain ⟨-, d, hd, d2, d3, -, d5⟩ := rlF_any.1 h
      obtain ⟨c', hc', rfl⟩ := List.mem_map.1 hd
      have e : c = c' := hC c hc c' hc' (by rw [h2]; exact d2.symm) (by rw [h3]; exact d3.symm)
      subst e
      simp only [turnC, if_true, List.mem_filter, decide_eq_true_eq] at d5
      exact d5.2 h5
    rw [if_pos hG, if_neg hG', if_pos hK']
    rfl
  · have hK' : ¬ (rlF g n (C.map turnC) ((i : Int), (k : Int), false)).any (fun t => t.toNat == j) = true := fun h => by
      obtain ⟨d1, d, hd, d2, d3, d4, d5⟩ := rlF_any.1 h
      obtain ⟨c', hc', rfl⟩ := List.mem_map.1 hd
      exact hG (rlF_any.2 ⟨d1, c', hc', d2, d3, d4, d5⟩)
    rw [if_neg hG, if_neg hK']
    by_cases hK : (rlF g n C ((i : Int), (k : Int), false)).any (fun t => t.toNat == j) = true
    · obtain ⟨h1, c, hc, h2, h3, h4, h5⟩ := rlF_any.1 hK
      have hG' : (rlF g n (C.map turnC) ((i : Int), (k : Int), true)).any (fun t => t.toNat == j) = true := rlF_any.2 ⟨h1, turnC c, List.mem_map_of_mem hc, h2, h3, h4, by
        simp only [turnC, if_true, List.mem_filter, decide_eq_true_eq]
        exact ⟨h5, fun hg => hG (rlF_any.2 ⟨h1, c, hc, h2, h3, h4, hg⟩)⟩⟩
      rw [if_pos hK, if_pos hG']
      rfl
    · have hG' : ¬ (rlF g n (C.map turnC) ((i : Int), (k : Int), true)).any (fun t => t.toNat == j) = true := fun h => by
        obtain ⟨d1, d, hd, d2, d3, d4, d5⟩ := rlF_any.1 h
        obtain ⟨c', hc', rfl⟩ := List.mem_map.1 hd
        simp only [turnC, if_true, List.mem_filter, decide_eq_true_eq] at d5
        exact hK (rlF_any.2 ⟨d1, c', hc', d2, d3, d4, d5.1⟩)
      rw [if_neg hK, if_neg hG']
theorem run_turn (hC : OnceC C) (i : Nat) : ∀ (L : List Nat) (st : List Bool), st.length = n → runB g n (C.map turnC) i L (st.map (!·)) = (runB g n C i L st).map (!·)
  | [], _, _ => rfl
  | p :: L, st, hl => by
    have e1 : runB g n (C.map turnC) i (p :: L) (st.map (!·)) = runB g n (C.map turnC) i L (stepF g n (C.map turnC) i p (st.map (!·))) := rfl
    have e2 : runB g n C i (p :: L) st = runB g n C i L (stepF g n C i p st) := rfl
    rw [e1, e2, step_turn hC i p st hl, run_turn hC i L _ (by rw [stepF_len, hl])]
theorem all_turn (hC : OnceC C) (v : Bool) (i : Nat) : allF g n (C.map turnC) false v i = (allF g n C false (!v) i).map (!·) := by
  have h := run_turn (g := g) (n := n) hC i (alongL false (insR g i)) (List.replicate n (!v)) (by simp)
  rw [List.map_replicate, Bool.not_not] at h
  exact h
/-- Turned round, the two answers are one. -/
theorem turned_plain {fi : List Bool} {X Y : List (List (List Bool))} (hC : OnceC C) (hfi : ∀ j, j < n → fi[j]?.getD false = !(st[j]?.getD false)) (hX : FlS g n C st true X) (hY : FlS g n (C.map turnC) fi false Y) :
    ∀ i k, Rch g i → k < insR g i + 2 → stateZ Y i k = (stateZ X i k).map (!·) := by
  intro i k hi hk
  have hf : ∀ p v j, j < n → (allF g n C false v p).length = n := fun p v j _ => by rw [allF, runB_len, List.length_replicate]
  induction k with
  | zero =>
    refine ext_get (by rw [hY.row i 0 hi hk, List.length_map, hX.row i 0 hi hk]) fun j hj => ?_
    rw [hY.row i 0 hi hk] at hj
    rw [not_get _ _ (by rw [hX.row i 0 hi hk]; exact hj)]
    have key : SpZ g n C st true j i ↔ SpZ g n (C.map turnC) fi false j i := by
      have hlv : lvS (allF g n (C.map turnC) false false) (allF g n (C.map turnC) false true) (!false) j = lvS (allF g n C false false) (allF g n C false true) (!true) j := by
        funext p b
        unfold lvS
        rw [all_turn hC, all_turn hC, not_get _ _ (by rw [hf p _ j hj]; exact hj), not_get _ _ (by rw [hf p _ j hj]; exact hj)]
        cases b <;> simp
      unfold SpZ
      rw [hlv]
      have hb : ∀ a : Nat, (((if a = 0 then iniF st n else List.replicate n true)[j]?.getD false == !true) = true) ↔ (((if a = 0 then iniF fi n else List.replicate n false)[j]?.getD false == !false) = true) := fun a => by
        by_cases e : a = 0
        · rw [if_pos e, if_pos e, iniF_get _ _ _ hj, iniF_get _ _ _ hj, hfi j hj]
          cases st[j]?.getD false <;> simp
        · rw [if_neg e, if_neg e]
          simp [List.getElem?_replicate, hj]
      exact ⟨sp_congr (fun _ h => h) (fun a _ h => (hb a).1 h) i, sp_congr (fun _ h => h) (fun a _ h => (hb a).2 h) i⟩
    have h1 := hX.first i j hi hj
    have h2 := hY.first i j hi hj
    rw [key] at h1
    simp only [Bool.not_true, Bool.not_false] at h1 h2
    show valZ Y i 0 j = !(valZ X i 0 j)
    cases hy : valZ Y i 0 j <;> cases hx : valZ X i 0 j
    · exact absurd (h2.2 (h1.1 hx)) (by rw [hy]; simp)
    · rfl
    · rfl
    · exact absurd (h1.2 (h2.1 hy)) (by rw [hx]; simp)
  | succ k ih =>
    rw [hY.step i k hi (by omega), ih (by omega), step_turn hC i k _ (hX.row i k hi (by omega)), hX.step i k hi (by omega)]

/-- A block's first state, of its last. -/
theorem BkS.run (h : BkS g n C Z) {i : Nat} (hi : i < g.length) : ∀ m, m ≤ insR g i + 1 → stateZ Z i (insR g i + 1 - m) = runB g n C i ((alongL true (insR g i)).take m) (stateZ Z i (insR g i + 1))
  | 0, _ => rfl
  | m + 1, hm => by
    have e := h.step i (insR g i + 1 - (m + 1)) hi (by omega)
    rw [show insR g i + 1 - (m + 1) + 1 = insR g i + 1 - m by omega] at e
    rw [e, h.run hi m (by omega), runB_take _ _ _ _ (by simp [alongL]; omega), stepF]
    have e2 : ∀ hh, (alongL true (insR g i))[m]'hh = insR g i + 1 - (m + 1) := fun hh => by
      simp [alongL]
      try omega
    rw [e2]
theorem BkS.first (h : BkS g n C Z) {i : Nat} (hi : i < g.length) {j : Nat} (hj : j < n) : (valZ Z i 0 j == true) = lvS (allF g n C true false) (allF g n C true true) true j i (valZ Z i (insR g i + 1) j == true) := by
  have e : stateZ Z i 0 = runB g n C i (alongL true (insR g i)) (stateZ Z i (insR g i + 1)) := by
    have := h.run hi (insR g i + 1) (Nat.le_refl _)
    rw [Nat.sub_self, List.take_of_length_le (by simp [alongL])] at this
    exact this
  rw [valZ, e]
  have h0 := h.row i (insR g i + 1) hi (by omega)
  unfold lvS allF
  rcases runB_flag g n C i j hj (alongL true (insR g i)) with ⟨v, hv⟩ | hv
  · rw [hv _ h0, hv _ (by simp), hv _ (by simp)]
    simp
  · rw [hv _ h0, hv _ (by simp), hv _ (by simp)]
    simp only [List.getElem?_replicate, hj, if_true, Option.getD_some]
    cases hz : (stateZ Z i (insR g i + 1))[j]?.getD false <;> simp [hz]
theorem prd_mem {g : Gb} {x i : Nat} : i ∈ prdK g g.length x ↔ i < g.length ∧ x ∈ tos g i := by
  simp [prdK]
/-- Behind an end is needed what some block to which it goes needs. -/
theorem BkS.end_ (h : BkS g n C Z) {i : Nat} (hi : i < g.length) {j : Nat} (hj : j < n) : valZ Z i (insR g i + 1) j = (tos g i).any (fun t => valZ Z t 0 j) := by
  have key : valZ Z i (insR g i + 1) j = true ↔ (tos g i).any (fun t => valZ Z t 0 j) = true := by
    rw [h.last i j hi hj, List.any_eq_true]
    constructor
    · intro hs
      cases hs with
      | base _ hb => exact hb.elim
      | @all p _ hp hl ht =>
        refine ⟨p, (prd_mem.1 ht).2, ?_⟩
        have hp' : p < g.length := hp
        have e := h.first hp' hj
        cases hz : (valZ Z p (insR g p + 1) j == true)
        · rw [hz, hl] at e
          simpa using e
        · rw [hz, all_mono_any g n C true true j p hl] at e
          simpa using e
      | @pass p _ hp hsp hl ht =>
        refine ⟨p, (prd_mem.1 ht).2, ?_⟩
        have hp' : p < g.length := hp
        have e := h.first hp' hj
        rw [(h.last p j hp' hj).2 hsp] at e
        simp only [beq_self_eq_true] at e
        rw [hl] at e
        simpa using e
    · rintro ⟨t, ht, hv⟩
      have htl := tos_lt ht
      have e := h.first htl hj
      rw [hv] at e
      simp only [beq_self_eq_true] at e
      cases hz : (valZ Z t (insR g t + 1) j == true)
      · rw [hz] at e
        exact .all htl e.symm (prd_mem.2 ⟨hi, ht⟩)
      · rw [hz] at e
        exact .pass htl ((h.last t j htl hj).1 (by simpa using hz)) e.symm (prd_mem.2 ⟨hi, ht⟩)
  cases h1 : valZ Z i (insR g i + 1) j <;> cases h2 : (tos g i).any (fun t => valZ Z t 0 j)
  · rfl
  · exact absurd (key.2 h2) (by rw [h1]; simp)
  · exact absurd (key.1 h1) (by rw [h2]; simp)
  · rfl
end
end Go.Proofs.Ytfpdecjlfnambaa
