/-
  The walk of (*mem.Memory).Alloc on a memory that has no map yet. Conditions: the memory lies in the heap.
-/
import Derived.Test.YtbcockaleegicaaAlloc
namespace Go.Proofs.Ytbcockaleegicaa
open Go.RowKit

theorem half_none {w : World} {mb : Nat} {r q m : Int} (h : w.heap[mb]? = some (memObj r q m none)) (nq : Nat) (q' m' : Int) :
    Half w ((((((w.alloc (Obj.cells #[Value.bool false, Value.int IntKind.i64 0, Value.int IntKind.i64 0] 30)).drewN nq).setCell { block := mb, off := 3 } (Value.map (some (w.heap.size + 1)))).setCell { block := mb, off := 2 } (Value.int IntKind.i64 m')).setCell { block := mb, off := 1 } (Value.int IntKind.i64 q')).alloc (Obj.map #[] 0)) mb r q' m' (some (w.heap.size + 1)) ∧
      (((((w.alloc (Obj.cells #[Value.bool false, Value.int IntKind.i64 0, Value.int IntKind.i64 0] 30)).drewN nq).setCell { block := mb, off := 3 } (Value.map (some (w.heap.size + 1)))).setCell { block := mb, off := 2 } (Value.int IntKind.i64 m')).setCell { block := mb, off := 1 } (Value.int IntKind.i64 q')).heap.size = w.heap.size + 1 := by
  have hlt : mb < w.heap.size := (Array.getElem?_eq_some_iff.1 h).1
  have h1 : ((w.alloc (Obj.cells #[Value.bool false, Value.int IntKind.i64 0, Value.int IntKind.i64 0] 30)).drewN nq).heap[mb]? = some (memObj r q m none) := (Below.heap_alloc w _ _ hlt).trans h
  have h2 := heap_setCell_same (heap_setCell_same (heap_setCell_same h1 3 (.map (some (w.heap.size + 1)))) 2 (.int .i64 m')) 1 (.int .i64 q')
  have hres : ((w.alloc (Obj.cells #[Value.bool false, Value.int IntKind.i64 0, Value.int IntKind.i64 0] 30)).drewN nq).heap[w.heap.size]? = some (.cells #[.bool false, .int .i64 0, .int .i64 0] 30) := heap_alloc_new w _
  have hsz : (((((w.alloc (Obj.cells #[Value.bool false, Value.int IntKind.i64 0, Value.int IntKind.i64 0] 30)).drewN nq).setCell { block := mb, off := 3 } (Value.map (some (w.heap.size + 1)))).setCell { block := mb, off := 2 } (Value.int IntKind.i64 m')).setCell { block := mb, off := 1 } (Value.int IntKind.i64 q')).heap.size = w.heap.size + 1 := by simp [World.setCell, World.drewN]
  refine ⟨⟨rfl, rfl, rfl, ?_, ?_, ?_, ?_⟩, hsz⟩
  · rw [World.size_alloc, hsz]; omega
  · rw [Below.heap_alloc _ _ _ (by rw [hsz]; omega)]
    exact h2
  · rw [Below.heap_alloc _ _ _ (by rw [hsz]; omega), Below.heap_setCell _ _ _ _ (by simp; omega), Below.heap_setCell _ _ _ _ (by simp; omega), Below.heap_setCell _ _ _ _ (by simp; omega)]
    exact hres
  · intro b hb hne
    rw [Below.heap_alloc _ _ _ (by rw [hsz]; omega), Below.heap_setCell _ _ _ _ (by simpa using hne), Below.heap_setCell _ _ _ _ (by simpa using hne), Below.heap_setCell _ _ _ _ (by simpa using hne)]
    exact Below.heap_alloc w _ _ hb

section
variable {w : World} {mb : Nat} {lm : Option Nat} {loc : Nat → Nat} {S : MS}

set_option maxHeartbeats 400000 in
theorem alloc_none (R : RepAt w mb none loc S) (n : Nat) (hn : (n : Int) ≤ S.room - S.words) (hmade : S.blocks.length + 1 < 1000) :
    Calls Try.prog 15 #[.pointer (some ⟨mb, 0, none⟩), .int .i64 n] w fun e w' => e = .returned (.tuple #[.agg #[.bool true, .int .i64 ((S.blocks.length : Int) + 1), .int .i64 0], .int .i64 0]) ∧ Turned w w' mb none loc S (S.push n) := by
  obtain ⟨c0, c1, c2, c3⟩ := obj_cells R.obj
  have hmb := R.lt mb (.inl rfl)
  have b1 := R.room0
  have b2 := R.room1
  have b3 := R.words
  have b4 := R.made
  have hd : decide ((n : Int) < 0) = false := by simp
  have hd2 : decide (S.room - S.words < n) = false := by simpa using hn
  have hf : ∀ j, w.frozen? ⟨mb, j, none⟩ = false := fun j => by simp [World.frozen?, R.obj, memObj]
  have heq := fun (w : World) (r : Option Nat) => run_eql_map_nil (P := Try.prog) w 61 3 64 r Try.underlying61
  have hmm := @run_makeMap Try.prog
  have HO := Lib.hid R.obj
  go_enter Try.func15, Try.ntmps15
  go_wp2
  go_quiet (fail)
  go_wp2
  obtain ⟨hh, hs9⟩ := half_none HO.out nq (S.words + n) (S.blocks.length + 1)
  generalize hW8 : ((((w.alloc (Obj.cells #[Value.bool false, Value.int IntKind.i64 0, Value.int IntKind.i64 0] 30)).drewN nq).setCell { block := mb, off := 3 } (Value.map (some (w.heap.size + 1)))).setCell { block := mb, off := 2 } (Value.int IntKind.i64 ((S.blocks.length : Int) + 1))).setCell { block := mb, off := 1 } (Value.int IntKind.i64 ((S.words : Int) + n)) = W8 at hh hs9 ⊢
  clear hW8
  have hmade0 := World.ownsMap_made W8 Try.prog 3 locElem
  rw [hs9] at hmade0
  have hsz8 : (W8.alloc (Obj.map #[] 0)).heap.size = w.heap.size + 2 := by rw [World.size_alloc, hs9]
  generalize hW9 : W8.alloc (Obj.map #[] 0) = W9 at hh hmade0 hsz8 ⊢
  clear hW9 hs9
  have HS := Lib.hid hsz8
  clear hsz8
  obtain ⟨lb, hlbe⟩ : ∃ lb, lb = w.heap.size + 1 := ⟨_, rfl⟩
  rw [← hlbe] at hh hmade0
  have HL := Lib.hid hlbe
  clear hlbe
  have hmk := fun w => make_cells w n (by omega)
  obtain ⟨d0, d1, d2, d3⟩ := obj_cells hh.obj
  have hlb9 := hmade0.lt
  have hne : lb ≠ mb := by have := HL.out; omega
  have hne2 : w.heap.size ≠ lb := by have := HL.out; omega
  have hS0 : S.blocks.length = 0 := by rw [R.nomap rfl]; rfl
  have hsz := hh.size
  have hmb9 : mb < W9.heap.size := by omega
  obtain ⟨W10, hupd, hD10, hturn⟩ := ((hmade0.alloc (.cells (rowv (List.replicate n none)).toArray 69)).drew).store keyLaw Try.underlying61 (by unfold maxLen; omega) (keyOf_key (by omega : S.blocks.length < 1000000)) (locElem_mk W9.heap.size n)
  have HS0 := Lib.hid hS0
  clear hS0
  have hg := hturn.grown
  have hs10 := hg.size
  have e2 : W10.cell? ⟨mb, 2, none⟩ = some (.int .i64 ((S.blocks.length : Int) + 1)) := hg.cell (show (W9.alloc _).cell? _ = _ from (World.cell?_of_block (Below.heap_alloc W9 _ mb hmb9)).trans d2) (by simpa using hne.symm)
  clear c0 c1 c2 c3 d0 d1 hf
  have h10 : ∀ b, b < W9.heap.size → b ≠ lb → W10.heap[b]? = W9.heap[b]? := fun b hb hne => (hg.block b (by show b < (W9.alloc _).heap.size; simp; omega) (by simpa using hne)).trans (Below.heap_alloc W9 _ b hb)
  have hres := (h10 _ hsz hne2).trans hh.res
  have r0 : W10.cell? ⟨w.heap.size, 0, none⟩ = some (.bool false) := by simp [World.cell?, hres]
  have r1 : W10.cell? ⟨w.heap.size, 1, none⟩ = some (.int .i64 0) := by simp [World.cell?, hres]
  have r2 : W10.cell? ⟨w.heap.size, 2, none⟩ = some (.int .i64 0) := by simp [World.cell?, hres]
  have f0 : W10.frozen? ⟨w.heap.size, 0, none⟩ = false := by simp [World.frozen?, hres]
  have f1 : W10.frozen? ⟨w.heap.size, 1, none⟩ = false := by simp [World.frozen?, hres]
  have f2 : W10.frozen? ⟨w.heap.size, 2, none⟩ = false := by simp [World.frozen?, hres]
  have HR := Lib.hid hres
  clear h10 hres hs10 heq hmm
  go_region
  go_wp2
  refine bodyPost_ret (v := .tuple #[.agg #[.bool true, .int .i64 ((S.blocks.length : Int) + 1), .int .i64 0], .int .i64 0]) (by simp [results, Try.results15, go_sem, r0, r1, r2]) rfl ⟨rfl, ?_⟩
  refine alloc_rep R hn hmade (.inr ⟨rfl, by have := HL.out; omega⟩) hh (D := .map []) ⟨?_, ?_, ?_⟩ Maps.tidy_empty (by omega) hne (Ne.symm hne2) ?_ hg ((((Below.refl w.heap.size W10).setCell (Nat.le_refl w.heap.size) _).setCell (Nat.le_refl w.heap.size) _).setCell (Nat.le_refl w.heap.size) _) fun b hb => ?_
  · unfold MS.live; rw [R.nomap rfl]; rfl
  · intro k l hl
    have := at_lt hl
    have := HS0.out
    omega
  · intro k _; rfl
  · rw [HS0.out] at hD10 ⊢
    exact hD10
  · rw [Below.heap_setCell _ _ _ _ hb, Below.heap_setCell _ _ _ _ hb, Below.heap_setCell _ _ _ _ hb]
end
end Go.Proofs.Ytbcockaleegicaa
