/-
  Graph: what makes the functions that hand over; a flow's cells; its matrices; leaves. Conditions: the flow lies in the heap.
-/
import Derived.Test.YtfpdecjlfnambaaGIterB
namespace Go.Proofs.Ytfpdecjlfnambaa
open Go Go.RowKit

set_option maxHeartbeats 2000000 in
theorem goes_any (B : Bv) (i : Nat) (w : World) : Calls Try.prog 31 #[B.v, .int .i64 (i : Int)] w fun e w' =>
    e = .returned (.func (.func 49) #[] #[.pointer (some ⟨w.heap.size, 0, none⟩), .pointer (some ⟨w.heap.size + 1, 0, none⟩)]) ∧ w' = (w.alloc (.cells B.cs.toArray 25)).alloc (.cells #[.int .i64 (i : Int)] 3) := by
  obtain ⟨nm, pa, lo, oa, cap, g⟩ := B
  go_enter Try.func31, Try.ntmps31
  go_wp2
  go_ret
  exact ⟨rfl, rfl⟩

set_option maxHeartbeats 2000000 in
theorem each_any (f : Nat) (w : World) : Calls Try.prog 44 #[.pointer (some ⟨f, 0, none⟩)] w fun e w' =>
    e = .returned (.func (.func 59) #[] #[.pointer (some ⟨w.heap.size, 0, none⟩)]) ∧ w' = w.alloc (.cells #[.pointer (some ⟨f, 0, none⟩)] 73) := by
  go_enter Try.func44, Try.ntmps44
  go_wp2
  go_ret
  exact ⟨rfl, rfl⟩

set_option maxHeartbeats 2000000 in
theorem values_any (oa : Option Addr) (n cap : Nat) (w : World) : Calls Try.prog 38 #[.slice oa n cap] w fun e w' =>
    e = .returned (.func (.func 55) #[] #[.pointer (some ⟨w.heap.size, 0, none⟩)]) ∧ w' = w.alloc (.cells #[.slice oa n cap] 42) := by
  go_enter Try.func38, Try.ntmps38
  go_wp2
  go_ret
  exact ⟨rfl, rfl⟩

/-- A flow's cells. -/
def flC (m : Nat) (B : Bv) (n : Nat) (cv : Value) (back : Bool) (fi no al : Value) : List Value :=
  [.map (some m), B.nm, B.pa, B.lo, .slice B.oa B.g.length B.cap, .int .i64 (n : Int), cv, .bool back, fi, no, al]

set_option maxRecDepth 100000 in
set_option maxHeartbeats 4000000 in
theorem along_any (n0 : Nat) (f m : Nat) (B : Bv) (n : Nat) (cv : Value) (back : Bool) (fi no al : Value) (i : Nat) (hi : i < B.g.length) (hs : B.Small) (w : World) (hf : Bx w f 79 (flC m B n cv back fi no al)) (hB : B.At n0 w) :
    Calls Try.prog 45 #[.pointer (some ⟨f, 0, none⟩), .int .i64 (i : Int)] w fun e w' =>
      e = .returned (.func (.func 60) #[] #[.pointer (some ⟨w.heap.size + 1, 0, none⟩), .pointer (some ⟨w.heap.size, 0, none⟩)]) ∧
      w' = (w.alloc (.cells #[.pointer (some ⟨f, 0, none⟩)] 73)).alloc (.cells #[.int .i64 (insR B.g i : Int)] 3) := by
  obtain ⟨nm, pa, lo, oa, cap, g⟩ := B
  obtain ⟨bl, off, rfl, hbl, hrow⟩ := hB (by show 0 < g.length; simp at hi; omega)
  simp only at hi hrow hf
  obtain ⟨⟨ia, ic, c1⟩, -⟩ := hrow i hi
  obtain ⟨L, hL⟩ : ∃ L, L = g.length := ⟨_, rfl⟩
  obtain ⟨s, hS⟩ : ∃ s, s = insR g i := ⟨_, rfl⟩
  have hs1 : L ≤ 1000 := by rw [hL]; exact hs.1
  have hs2 : s ≤ 1000 := by rw [hS]; exact (hs.2 i).1
  have c2 := hf.cell 4
  simp [flC] at c2
  rw [← hL] at c2 hi
  rw [← hS] at c1 ⊢
  have hf' := hf.lt
  have d1 := cellA (.cells #[.pointer (some ⟨f, 0, none⟩)] 73) c1
  have d2 := cellA (.cells #[.pointer (some ⟨f, 0, none⟩)] 73) c2
  have d3 := (Bx.new w 73 [.pointer (some ⟨f, 0, none⟩)]).cell 0
  simp at d3
  clear hL hS hs hrow hf hB
  go_enter Try.func45, Try.ntmps45
  go_wp2
  go_ret
  exact ⟨rfl, rfl⟩

/-- A matrix: a row of rows, one for each block that counts. -/
def mrow (c : List Bool) (n : Nat) (R : Nat → Nat) (i : Nat) : Value := if c[i]?.getD false then .slice (some ⟨R i, 0, none⟩) n n else .slice none 0 0
def mC (c : List Bool) (n : Nat) (R : Nat → Nat) : List Value := (List.range c.length).map (mrow c n R)
structure Mat (w : World) (bm : Nat) (c : List Bool) (n : Nat) (R : Nat → Nat) (F : Nat → List Bool) : Prop where
  rows : Bx w bm 26 (mC c n R)
  row : ∀ i, i ∈ ones c → (F i).length = n ∧ Bx w (R i) 4 (bC (F i))
theorem mC_at {c : List Bool} {n : Nat} {R : Nat → Nat} {i : Nat} (h : i ∈ ones c) : (mC c n R)[i]? = some (.slice (some ⟨R i, 0, none⟩) n n) := by
  obtain ⟨h1, h2⟩ := ones_lt h
  simp only [mC, List.getElem?_map, List.getElem?_range h1, Option.map_some, mrow, if_pos h2]
theorem bC_get {l : List Bool} {j : Nat} (h : j < l.length) : (bC l)[j]? = some (.bool (l[j]?.getD false)) := by simp [List.getElem?_eq_getElem h]
theorem Mat.cellR {w : World} {bm : Nat} {c : List Bool} {n : Nat} {R : Nat → Nat} {F : Nat → List Bool} (h : Mat w bm c n R F) {i : Nat} (hi : i ∈ ones c) : w.cell? ⟨bm, i, none⟩ = some (.slice (some ⟨R i, 0, none⟩) n n) := by
  rw [h.rows.cell, mC_at hi]
theorem Mat.cellB {w : World} {bm : Nat} {c : List Bool} {n : Nat} {R : Nat → Nat} {F : Nat → List Bool} (h : Mat w bm c n R F) {i : Nat} (hi : i ∈ ones c) {j : Nat} (hj : j < n) : w.cell? ⟨R i, j, none⟩ = some (.bool ((F i)[j]?.getD false)) := by
  obtain ⟨h1, h2⟩ := h.row i hi
  rw [h2.cell, bC_get (by omega)]
theorem Mat.of {w w' : World} {bm : Nat} {c : List Bool} {n : Nat} {R : Nat → Nat} {F : Nat → List Bool} (h : Mat w bm c n R F) (h1 : w'.heap[bm]? = w.heap[bm]?) (h2 : ∀ i ∈ ones c, w'.heap[R i]? = w.heap[R i]?) : Mat w' bm c n R F :=
  ⟨h.rows.of_heap h1, fun i hi => ⟨(h.row i hi).1, (h.row i hi).2.of_heap (h2 i hi)⟩⟩

/-- What a block leaves of a flag. -/
def lvB (F A N : Nat → List Bool) (i j : Nat) : Bool := if (F i)[j]?.getD false then (A i)[j]?.getD false else (N i)[j]?.getD false

set_option maxRecDepth 100000 in
set_option maxHeartbeats 4000000 in
theorem leaves_any (f m : Nat) (B : Bv) (n : Nat) (cv : Value) (back : Bool) (bf bn ba : Nat) (c : List Bool) (Rf Rn Ra : Nat → Nat) (F N A : Nat → List Bool) (L : Nat) (hL : L = c.length) (i j : Nat) (hi : i ∈ ones c) (hj : j < n) (hn : n ≤ 1000) (hc : c.length ≤ 1000) (w : World)
    (hf : Bx w f 79 (flC m B n cv back (.slice (some ⟨bf, 0, none⟩) L L) (.slice (some ⟨bn, 0, none⟩) L L) (.slice (some ⟨ba, 0, none⟩) L L)))
    (h1 : Mat w bf c n Rf F) (h2 : Mat w bn c n Rn N) (h3 : Mat w ba c n Ra A) :
    Calls Try.prog 47 #[.pointer (some ⟨f, 0, none⟩), .int .i64 (i : Int), .int .i64 (j : Int)] w fun e w' => e = .returned (.bool (lvB F A N i j)) ∧ w' = w := by
  have c1 := hf.cell 8
  have c2 := hf.cell 9
  have c3 := hf.cell 10
  simp [flC] at c1 c2 c3
  have d1 := h1.cellR hi
  have d2 := h2.cellR hi
  have d3 := h3.cellR hi
  have e1 := h1.cellB hi hj
  have e2 := h2.cellB hi hj
  have e3 := h3.cellB hi hj
  have hiL := (ones_lt hi).1
  rw [← hL] at hiL hc
  unfold lvB
  generalize (F i)[j]?.getD false = x1 at *
  generalize (N i)[j]?.getD false = x2 at *
  generalize (A i)[j]?.getD false = x3 at *
  clear hf h1 h2 h3 hL hi
  cases x1
  all_goals
    go_enter Try.func47, Try.ntmps47
    go_wp2
    go_ret
    exact ⟨rfl, rfl⟩

end Go.Proofs.Ytfpdecjlfnambaa
