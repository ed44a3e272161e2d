/-
  What writtenAhead knows, and how it marks a place. Conditions: it lies in the heap.
-/
import Derived.Test.YtobhfmliaecbjaaDoorKinds
import Derived.BigRegion
namespace Go.Proofs.YtobhfmliaecbjaaDoor
open Go.RowKit

/-- of each place what is written ahead of it (a bit each), if it was found -/
abbrev Md := List (Option Nat)
def mv (o : Option Nat) : Value := .int .u16 ((o.getD 0 : Nat) : Int)
def fdv (o : Option Nat) : Value := .bool o.isSome

structure WAt (B bF gF bA gA bT : Nat) (w : World) (st : Md) (todo : List Int) : Prop where
  hF : w.heap[bF]? = some (.cells #[.slice (some ⟨gF, 0, none⟩) st.length st.length] 78)
  rF : w.heap[gF]? = some (.cells (st.map fdv).toArray 4)
  hA : w.heap[bA]? = some (.cells #[.slice (some ⟨gA, 0, none⟩) st.length st.length] 87)
  rA : w.heap[gA]? = some (.cells (st.map mv).toArray 71)
  hT : ∃ v, w.heap[bT]? = some (.cells #[v] 23) ∧ w.ownsRow B 3 1 v todo.length (todo.map (Value.int .i64))
  base : B ≤ bF ∧ B ≤ gF ∧ B ≤ bA ∧ B ≤ gA ∧ B ≤ bT
  small : ∀ m, some m ∈ st → m < 65536

/-- blocks below B stand, and the boxes of instructions -/
structure WK (B : Nat) (w w' : World) : Prop where
  os : w'.os = w.os
  tape : w'.tape = w.tape
  output : w'.output = w.output
  size : w.heap.size ≤ w'.heap.size
  block : ∀ b, b < w.heap.size → (b < B ∨ ∃ c f, w.heap[b]? = some (.cells c 25 f)) → w'.heap[b]? = w.heap[b]?

theorem WK.refl (B : Nat) (w : World) : WK B w w := ⟨rfl, rfl, rfl, Nat.le_refl _, fun _ _ _ => rfl⟩
theorem WK.trans {B : Nat} {a b c : World} (h : WK B a b) (k : WK B b c) : WK B a c := by
  refine ⟨k.os.trans h.os, k.tape.trans h.tape, k.output.trans h.output, Nat.le_trans h.size k.size, fun i hi hc => ?_⟩
  have e := h.block i hi hc
  refine (k.block i (Nat.lt_of_lt_of_le hi h.size) ?_).trans e
  rcases hc with h1 | ⟨c, f, h1⟩
  · exact .inl h1
  · exact .inr ⟨c, f, e.trans h1⟩
theorem WK.below {B : Nat} {w w' : World} (h : WK B w w') (hB : B ≤ w.heap.size) : Below B w w' := ⟨h.os, h.tape, h.output, h.size, fun b hb => h.block b (by omega) (.inl hb)⟩
theorem WK.of_below {B : Nat} {w w' : World} (h : Below w.heap.size w w') : WK B w w' := ⟨h.os, h.tape, h.output, h.size, fun b hb _ => h.block b hb⟩
theorem WK.setCell {B : Nat} {w : World} {a : Addr} {c : Array Value} {t : TypeId} {f : Nat × Nat} (hB : B ≤ a.block) (ha : w.heap[a.block]? = some (.cells c t f)) (ht : t ≠ 25) (v : Value) : WK B w (w.setCell a v) := by
  refine ⟨rfl, rfl, rfl, by simp [World.setCell], fun b hb hc => Below.heap_setCell w a v b fun e => ?_⟩
  subst e
  rcases hc with h1 | ⟨c', f', h1⟩
  · omega
  · rw [ha] at h1
    simp at h1
    exact ht h1.2.1
theorem WK.drew {B : Nat} {w w' : World} (h : WK B w w') : WK B w w'.drew := ⟨h.os, h.tape, h.output, h.size, h.block⟩
theorem WK.grown {B base e size n : Nat} {w w' : World} {v : Value} {xs : List Value} (h : w.ownsRow base e size v n xs) (hB : B ≤ base) (he : e ≠ 25) (hg : w.grownBy w' v.ownBlock) : WK B w w' := by
  refine ⟨hg.os, hg.tape, hg.output, hg.size, fun b hb hc => hg.block b hb ?_⟩
  rcases h.2 with ⟨rfl, _⟩ | ⟨g, cap, cur, rfl, hbb, hgg, _⟩
  · simp [Value.ownBlock]
  · simp only [Value.ownBlock, ne_eq, Option.some.injEq]
    rintro rfl
    rcases hc with h1 | ⟨c', f', h1⟩
    · omega
    · rw [hgg] at h1
      simp at h1
      exact he h1.2.1

theorem row_setCell {w : World} {base e size n : Nat} {v : Value} {xs : List Value} (h : w.ownsRow base e size v n xs) {a : Addr} {c : Array Value} {t : TypeId} {f : Nat × Nat} (ha : w.heap[a.block]? = some (.cells c t f)) (ht : t ≠ e) (u : Value) : (w.setCell a u).ownsRow base e size v n xs := by
  refine ⟨h.1, ?_⟩
  rcases h.2 with hn | ⟨g, cap, cur, rfl, hbb, hgg, rest⟩
  · exact .inl hn
  · refine .inr ⟨g, cap, cur, rfl, hbb, ?_, rest⟩
    rw [Below.heap_setCell w a u g fun e' => ?_]
    · exact hgg
    · subst e'
      rw [hgg] at ha
      simp at ha
      exact ht ha.2.1.symm
theorem row_below {base e size n : Nat} {w w' : World} {v : Value} {xs : List Value} (hb : Below w.heap.size w w') (h : w.ownsRow base e size v n xs) : w'.ownsRow base e size v n xs := by
  refine ⟨h.1, ?_⟩
  rcases h.2 with hn | ⟨g, cap, cur, rfl, hbb, hgg, rest⟩
  · exact .inl hn
  · exact .inr ⟨g, cap, cur, rfl, hbb, (hb.block _ (Array.getElem?_eq_some_iff.1 hgg).1).trans hgg, rest⟩

theorem grown_other {w w' : World} {base e size n : Nat} {v : Value} {xs : List Value} (h : w.ownsRow base e size v n xs) (hg : w.grownBy w' v.ownBlock) {b : Nat} {c : Array Value} {t : TypeId} {f : Nat × Nat} (hb : w.heap[b]? = some (.cells c t f)) (ht : t ≠ e) : w'.heap[b]? = some (.cells c t f) := by
  rw [hg.block b (Array.getElem?_eq_some_iff.1 hb).1 ?_]
  · exact hb
  · rcases h.2 with ⟨rfl, _⟩ | ⟨g, cap, cur, rfl, hbb, hgg, _⟩
    · simp [Value.ownBlock]
    · simp only [Value.ownBlock, ne_eq, Option.some.injEq]
      rintro rfl
      rw [hgg] at hb
      simp at hb
      exact ht hb.2.1.symm

/-- how a place is marked -/
def markS (st : Md) (todo : List Int) (pl : Nat) (now : Nat) : Md × List Int :=
  match st[pl]? with
  | some (some m) => if (bits .andNot .u16 (m : Int) (now : Int) == 0) = true then (st, todo) else (st.set pl (some (now &&& m)), todo ++ [(pl : Int)])
  | _ => (st.set pl (some now), todo ++ [(pl : Int)])

section
variable {B bF gF bA gA bT : Nat} {w : World} {st : Md} {todo : List Int}
theorem WAt.next {w' : World} (h : WAt B bF gF bA gA bT w st todo) (hb : Below w.heap.size w w') : WAt B bF gF bA gA bT w' st todo := by
  obtain ⟨v, h1, h2⟩ := h.hT
  have k : ∀ {b : Nat} {o : Obj}, w.heap[b]? = some o → w'.heap[b]? = some o := fun hh => (hb.block _ (Array.getElem?_eq_some_iff.1 hh).1).trans hh
  exact ⟨k h.hF, k h.rF, k h.hA, k h.rA, ⟨v, k h1, row_below hb h2⟩, h.base, h.small⟩

theorem bne {w : World} {a b : Nat} {c c' : Array Value} {t t' : TypeId} {f f' : Nat × Nat} (ha : w.heap[a]? = some (.cells c t f)) (hb : w.heap[b]? = some (.cells c' t' f')) (ht : t ≠ t') : a ≠ b := fun e => by
  subst e
  rw [ha] at hb
  simp at hb
  exact ht hb.2.1

theorem mv_set (st : Md) (i m : Nat) : (st.map mv).toArray.setIfInBounds i (.int .u16 (m : Int)) = ((st.set i (some m)).map mv).toArray := by
  simp [List.map_set, mv]
theorem fdv_set (st : Md) (i m : Nat) : (st.map fdv).toArray.setIfInBounds i (.bool true) = ((st.set i (some m)).map fdv).toArray := by
  simp [List.map_set, fdv]

theorem WAt.put (h : WAt B bF gF bA gA bT w st todo) (pl m : Nat) (hm : m < 65536) :
    WAt B bF gF bA gA bT ((w.setCell ⟨gA, pl, none⟩ (.int .u16 (m : Int))).setCell ⟨gF, pl, none⟩ (.bool true)) (st.set pl (some m)) todo ∧ WK B w ((w.setCell ⟨gA, pl, none⟩ (.int .u16 (m : Int))).setCell ⟨gF, pl, none⟩ (.bool true)) := by
  obtain ⟨v, h1, h2⟩ := h.hT
  have n1 : gF ≠ gA := bne h.rF h.rA (by decide)
  have n3 : bF ≠ gA := bne h.hF h.rA (by decide)
  have n4 : bA ≠ gF := bne h.hA h.rF (by decide)
  have n5 : bF ≠ gF := bne h.hF h.rF (by decide)
  have n6 : bA ≠ gA := bne h.hA h.rA (by decide)
  have n7 : bT ≠ gA := bne h1 h.rA (by decide)
  have n8 : bT ≠ gF := bne h1 h.rF (by decide)
  have old : ∀ b o, b ≠ gA → b ≠ gF → w.heap[b]? = some o → ((w.setCell ⟨gA, pl, none⟩ (.int .u16 (m : Int))).setCell ⟨gF, pl, none⟩ (.bool true)).heap[b]? = some o := fun b o ha hf hh => by
    rw [Below.heap_setCell _ ⟨gF, pl, none⟩ _ b hf, Below.heap_setCell _ ⟨gA, pl, none⟩ _ b ha]
    exact hh
  have rF1 : (w.setCell ⟨gA, pl, none⟩ (.int .u16 (m : Int))).heap[gF]? = some (.cells (st.map fdv).toArray 4) := by
    rw [Below.heap_setCell _ ⟨gA, pl, none⟩ _ gF n1]
    exact h.rF
  refine ⟨⟨?_, ?_, ?_, ?_, ⟨v, old _ _ n7 n8 h1, row_setCell (row_setCell h2 (a := ⟨gA, pl, none⟩) h.rA (by decide) _) (a := ⟨gF, pl, none⟩) rF1 (by decide) _⟩, h.base, ?_⟩, ?_⟩
  · rw [List.length_set]
    exact old _ _ n3 n5 h.hF
  · have := heap_setCell_same (w.setCell ⟨gA, pl, none⟩ (.int .u16 (m : Int))) gF pl _ 4 (.bool true) rF1
    rw [fdv_set st pl m] at this
    exact this
  · rw [List.length_set]
    exact old _ _ n6 n4 h.hA
  · rw [Below.heap_setCell _ ⟨gF, pl, none⟩ _ gA n1.symm]
    have := heap_setCell_same w gA pl _ 71 (.int .u16 (m : Int)) h.rA
    rw [mv_set st pl m] at this
    exact this
  · intro k hk
    rcases List.mem_or_eq_of_mem_set hk with h0 | h0
    · exact h.small k h0
    · cases h0
      exact hm
  · exact (WK.setCell h.base.2.2.2.1 (a := ⟨gA, pl, none⟩) h.rA (by decide) _).trans (WK.setCell h.base.2.1 (a := ⟨gF, pl, none⟩) rF1 (by decide) _)

theorem WAt.drew (h : WAt B bF gF bA gA bT w st todo) : WAt B bF gF bA gA bT w.drew st todo := ⟨h.hF, h.rF, h.hA, h.rA, h.hT, h.base, h.small⟩

/-- a place more is to do -/
theorem WAt.push {w3 : World} {v v' : Value} {o : Obj} (h : WAt B bF gF bA gA bT w st todo) (hv : w.heap[bT]? = some (.cells #[v] 23)) (hown : (w.alloc o).ownsRow B 3 1 v todo.length (todo.map (Value.int .i64))) (pl : Int)
    (h3 : w3.ownsRow B 3 1 v' (todo.length + 1) (todo.map (Value.int .i64) ++ [.int .i64 pl])) (hg : (w.alloc o).grownBy w3 v.ownBlock) :
    WAt B bF gF bA gA bT (w3.setCell ⟨bT, 0, none⟩ v') st (todo ++ [pl]) ∧ WK B w (w3.setCell ⟨bT, 0, none⟩ v') := by
  have k : ∀ {b : Nat} {c : Array Value} {t : TypeId} {f : Nat × Nat}, w.heap[b]? = some (.cells c t f) → t ≠ 3 → w3.heap[b]? = some (.cells c t f) := fun {b c t f} hh ht =>
    grown_other hown hg ((heap_alloc_old _ _ (Array.getElem?_eq_some_iff.1 hh).1).trans hh) ht
  have hT3 := k hv (by decide)
  have n1 : bF ≠ bT := bne h.hF hv (by decide)
  have n2 : gF ≠ bT := bne h.rF hv (by decide)
  have n3 : bA ≠ bT := bne h.hA hv (by decide)
  have n4 : gA ≠ bT := bne h.rA hv (by decide)
  have q : ∀ {b : Nat} {o : Obj}, b ≠ bT → w3.heap[b]? = some o → (w3.setCell ⟨bT, 0, none⟩ v').heap[b]? = some o := fun hb hh => (Below.heap_setCell _ ⟨bT, 0, none⟩ _ _ hb).trans hh
  refine ⟨⟨q n1 (k h.hF (by decide)), q n2 (k h.rF (by decide)), q n3 (k h.hA (by decide)), q n4 (k h.rA (by decide)), ⟨v', ?_, ?_⟩, h.base, h.small⟩, ?_⟩
  · exact heap_setCell_same w3 bT 0 _ 23 v' hT3
  · have := row_setCell h3 (a := ⟨bT, 0, none⟩) hT3 (by decide) v'
    rw [List.length_append, List.map_append]
    exact this
  · exact ((WK.of_below (alloc_below w o)).trans (WK.grown hown (Nat.le_refl _) (by decide) hg)).trans (WK.setCell (a := ⟨bT, 0, none⟩) h.base.2.2.2.2 hT3 (by decide) _)

set_option maxRecDepth 100000 in
set_option maxHeartbeats 2000000 in
theorem mark_any (h : WAt B bF gF bA gA bT w st todo) (pl now : Nat) (hp : pl < st.length) (hnow : now < 65536) (hB : B ≤ w.heap.size) (ht : todo.length ≤ 100000000) :
    Calls Tryd.prog 52 #[.int .i64 pl, .int .u16 now, .pointer (some ⟨bF, 0, none⟩), .pointer (some ⟨bA, 0, none⟩), .pointer (some ⟨bT, 0, none⟩)] w fun e w' =>
      e = .returned (.tuple #[]) ∧ WAt B bF gF bA gA bT w' (markS st todo pl now).1 (markS st todo pl now).2 ∧ WK B w w' := by
  obtain ⟨i3, hi3, hz3, hs3, hb3⟩ := info_parts info3
  have HI := Lib.hid (And.intro hi3 (And.intro hz3 (And.intro hs3 hb3)))
  clear hi3 hz3 hs3 hb3
  obtain ⟨vt, hvt, hown⟩ := h.hT
  have c0 : w.cell? ⟨bF, 0, none⟩ = some (.slice (some ⟨gF, 0, none⟩) st.length st.length) := by simp [World.cell?, h.hF]
  have c1 : w.cell? ⟨bA, 0, none⟩ = some (.slice (some ⟨gA, 0, none⟩) st.length st.length) := by simp [World.cell?, h.hA]
  have c2 : w.cell? ⟨bT, 0, none⟩ = some vt := by simp [World.cell?, hvt]
  obtain ⟨o, ho⟩ : ∃ o, st[pl]? = some o := ⟨_, List.getElem?_eq_getElem hp⟩
  have d0 : w.cell? ⟨gF, pl, none⟩ = some (fdv o) := by simp [World.cell?, h.rF, ho]
  have d1 : w.cell? ⟨gA, pl, none⟩ = some (mv o) := by simp [World.cell?, h.rA, ho]
  have f0 : w.frozen? ⟨gF, pl, none⟩ = false := by simp [World.frozen?, h.rF]
  have f1 : w.frozen? ⟨gA, pl, none⟩ = false := by simp [World.frozen?, h.rA]
  have n1 : gF ≠ gA := bne h.rF h.rA (by decide)
  have n2 : gA ≠ gF := n1.symm
  have n3 : bF ≠ gA := bne h.hF h.rA (by decide)
  have n4 : bA ≠ gF := bne h.hA h.rF (by decide)
  have n5 : gA ≠ bF := n3.symm
  have n6 : gF ≠ bA := n4.symm
  have HO := Lib.hid ho
  clear ho
  have hp' : (pl : Int) < st.length := by omega
  cases o with
  | none =>
    replace d0 : w.cell? ⟨gF, pl, none⟩ = some (.bool false) := d0
    replace d1 : w.cell? ⟨gA, pl, none⟩ = some (.int .u16 0) := d1
    have hS : markS st todo pl now = (st.set pl (some now), todo ++ [(pl : Int)]) := by simp [markS, HO.out]
    rw [hS]
    clear hS
    go_enter Tryd.func52, Tryd.ntmps52
    go_wp2
    go_region
    obtain ⟨h2, k2⟩ := h.put pl now hnow
    replace h2 := h2.drew
    replace k2 := k2.drew
    generalize ((w.setCell ⟨gA, pl, none⟩ (.int .u16 (now : Int))).setCell ⟨gF, pl, none⟩ (.bool true)).drew = w2 at h2 k2 ⊢
    clear c0 c1 c2 d0 d1 f0 f1 hvt hown vt
    obtain ⟨vt, hvt, hown⟩ := h2.hT
    have c2 : w2.cell? ⟨bT, 0, none⟩ = some vt := by simp [World.cell?, hvt]
    have hl2 := World.block_lt_of_cell? w2 _ c2
    replace hown := row_below (alloc_below w2 (.cells #[.int .i64 (pl : Int)] 3)) hown
    have hsz := k2.size
    obtain ⟨hi3, hz3, hs3, hb3⟩ := HI.out
    go_wp2_with (at_builtin; refine wpList_append_own _ rfl (.tmp 37) (.tmp 39) 23 rfl B 3 i3 _ 1 8 Tryd.underlying23 hi3 hz3 hs3 hb3 rfl (by decide) vt todo.length _ rfl hown ⟨w2.heap.size, 0, none⟩ 1 1 [.int .i64 (pl : Int)] rfl rfl ?c1 ?c2 ?c3 ?c4 ?c5 ?_)
    try case c1 => exact new_cells w2 [.int .i64 (pl : Int)] 3 _ rfl
    case c2 => first | rfl | (intro u hu; simp at hu; rcases hu with rfl; rfl)
    case c3 => unfold maxLen; omega
    case c4 => omega
    case c5 => first | omega | (simp; omega)
    intro v' w' hown' hgrow _
    obtain ⟨og, g', cap', rfl, hog⟩ := row_shape hown'
    obtain rfl := hog (by omega)
    obtain ⟨hfin, hkf⟩ := h2.push hvt hown pl hown' hgrow
    have hvt' := grown_other hown hgrow ((heap_alloc_old _ _ (Array.getElem?_eq_some_iff.1 hvt).1).trans hvt) (by decide)
    have c3 : w'.cell? ⟨bT, 0, none⟩ = some vt := by simp [World.cell?, hvt']
    have f3 : w'.frozen? ⟨bT, 0, none⟩ = false := by simp [World.frozen?, hvt']
    clear hown' hgrow hown c2
    go_wp2
    go_end0
    exact ⟨rfl, hfin, k2.trans hkf⟩
  | some m =>
    replace d0 : w.cell? ⟨gF, pl, none⟩ = some (.bool true) := d0
    replace d1 : w.cell? ⟨gA, pl, none⟩ = some (.int .u16 (m : Int)) := d1
    have hm : m < 65536 := h.small m (List.mem_of_getElem? HO.out)
    by_cases hc : (bits .andNot .u16 (m : Int) (now : Int) == 0) = true
    · have hS : markS st todo pl now = (st, todo) := by simp only [markS, HO.out]; rw [if_pos hc]
      rw [hS]
      clear hS
      go_enter Tryd.func52, Tryd.ntmps52
      go_wp2
      go_returns
      exact ⟨rfl, h, WK.refl _ _⟩
    · have hS : markS st todo pl now = (st.set pl (some (now &&& m)), todo ++ [(pl : Int)]) := by simp only [markS, HO.out]; rw [if_neg hc]
      rw [hS]
      have hc' : (bits .andNot .u16 (m : Int) (now : Int) == 0) = false := by simpa using hc
      have ha := and16 now m hnow hm
      have hnm : now &&& m < 65536 := Nat.lt_of_le_of_lt Nat.and_le_left hnow
      clear hS hc
      go_enter Tryd.func52, Tryd.ntmps52
      go_wp2
      go_region
      obtain ⟨h2, k2⟩ := h.put pl (now &&& m) hnm
      replace h2 := h2.drew
      replace k2 := k2.drew
      generalize ((w.setCell ⟨gA, pl, none⟩ (.int .u16 ((now &&& m : Nat) : Int))).setCell ⟨gF, pl, none⟩ (.bool true)).drew = w2 at h2 k2 ⊢
      clear c0 c1 c2 d0 d1 f0 f1 hvt hown vt
      obtain ⟨vt, hvt, hown⟩ := h2.hT
      have c2 : w2.cell? ⟨bT, 0, none⟩ = some vt := by simp [World.cell?, hvt]
      have hl2 := World.block_lt_of_cell? w2 _ c2
      replace hown := row_below (alloc_below w2 (.cells #[.int .i64 (pl : Int)] 3)) hown
      have hsz := k2.size
      obtain ⟨hi3, hz3, hs3, hb3⟩ := HI.out
      go_wp2_with (at_builtin; refine wpList_append_own _ rfl (.tmp 37) (.tmp 39) 23 rfl B 3 i3 _ 1 8 Tryd.underlying23 hi3 hz3 hs3 hb3 rfl (by decide) vt todo.length _ rfl hown ⟨w2.heap.size, 0, none⟩ 1 1 [.int .i64 (pl : Int)] rfl rfl ?e1 ?e2 ?e3 ?e4 ?e5 ?_)
      try case e1 => exact new_cells w2 [.int .i64 (pl : Int)] 3 _ rfl
      case e2 => first | rfl | (intro u hu; simp at hu; rcases hu with rfl; rfl)
      case e3 => unfold maxLen; omega
      case e4 => omega
      case e5 => first | omega | (simp; omega)
      intro v' w' hown' hgrow _
      obtain ⟨og, g', cap', rfl, hog⟩ := row_shape hown'
      obtain rfl := hog (by omega)
      obtain ⟨hfin, hkf⟩ := h2.push hvt hown pl hown' hgrow
      have hvt' := grown_other hown hgrow ((heap_alloc_old _ _ (Array.getElem?_eq_some_iff.1 hvt).1).trans hvt) (by decide)
      have c3 : w'.cell? ⟨bT, 0, none⟩ = some vt := by simp [World.cell?, hvt']
      have f3 : w'.frozen? ⟨bT, 0, none⟩ = false := by simp [World.frozen?, hvt']
      clear hown' hgrow hown c2
      go_wp2
      go_end0
      exact ⟨rfl, hfin, k2.trans hkf⟩
end
end Go.Proofs.YtobhfmliaecbjaaDoor
