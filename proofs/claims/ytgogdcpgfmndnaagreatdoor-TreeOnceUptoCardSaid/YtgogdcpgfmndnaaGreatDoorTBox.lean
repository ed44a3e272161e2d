/-
  Boxes of many cells: a value of many cells is stored into a variable that was just made; what is read of it. No conditions: laws.
-/
import Derived.Test.YtgogdcpgfmndnaaGreatDoorTModel
import Derived.Deep.MidRow
namespace Go.Proofs.YtgogdcpgfmndnaaGreatDoor
open Go.RowKit

theorem below_setCells (B b : Nat) (hB : B ≤ b) : ∀ (vs : List Value) (o : Nat) (w0 w : World), Below B w0 w → Below B w0 (w.setCells b o vs)
  | [], _, _, _, h => h
  | v :: vs, o, w0, _, h => below_setCells B b hB vs (o + 1) w0 _ (h.setCell (p := ⟨b, o, none⟩) hB v)
theorem size_setCells (b : Nat) : ∀ (vs : List Value) (o : Nat) (w : World), (w.setCells b o vs).heap.size = w.heap.size
  | [], _, _ => rfl
  | _ :: vs, o, _ => (size_setCells b vs (o + 1) _).trans (by simp [World.setCell])
theorem there_block {w : World} {b : Nat} {Z : Array Value} {t : TypeId} (h : w.heap[b]? = some (.cells Z t)) (n : Nat) (hn : n ≤ Z.size) : w.there b 0 n := fun j hj => by
  refine ⟨?_, by simp [World.frozen?, h]⟩
  have hz : j < Z.size := by omega
  simp only [World.cell?, h, Nat.zero_add, Array.getElem?_eq_getElem hz]
  rfl
theorem there_new (w : World) (Z : Array Value) (t : TypeId) (n : Nat) (hn : n ≤ Z.size) : (w.alloc (.cells Z t)).there w.heap.size 0 n := there_block (heap_alloc_new _ _) n hn

/-- A value of many cells is stored into a variable that was just made. -/
theorem wpList_store_new {P : Program} {ops : Array Oper} {rest : List Oper} {op : Oper} {a : Act} {Q : Exit → Act → World → Prop} (hgd : op.guard = none) (ty : TypeId) (x y : Operand) (ho : op.op = .store ty x y) (w : World) (Z : Array Value) (t : TypeId)
    (hx : a.eval x = .pointer (some ⟨w.heap.size, 0, none⟩)) (cs : List Value) (hy : a.eval y = .agg cs.toArray) (hZ : cs.length ≤ Z.size) (hi : (P.info? ty).map (·.size) = some cs.length) (h1 : ∀ v ∈ cs, v.oneCell' = true)
    (h : ∀ W, Below w.heap.size w W → W.rangeAt w.heap.size 0 cs → W.heap.size = w.heap.size + 1 → wpList P ops Q rest (a.put op.dst undef) W) :
    wpList P ops Q (op :: rest) a (w.alloc (.cells Z t)) := by
  have ht : (w.alloc (.cells Z t)).there w.heap.size 0 cs.length := there_new w Z t _ hZ
  refine wpList_store_mid hgd ty x y ho w.heap.size 0 cs.toArray hx hy (by simpa using ht) (by simpa using hi) (all_oneCell_toArray h1) ?_
  refine h _ ?_ ?_ ?_
  · exact below_setCells _ _ (Nat.le_refl _) _ _ _ _ (alloc_below w _)
  · exact World.rangeAt_setCells_same _ _ _ _ ht
  · rw [size_setCells]; simp

theorem rangeAt_box (w : World) (cs : List Value) (t : TypeId) : (w.alloc (.cells cs.toArray t)).rangeAt w.heap.size 0 cs := fun j v hv => by
  simp only [World.cell?, Nat.zero_add]
  rw [heap_alloc_new]
  simpa using hv
theorem rangeAt_below {w w' : World} {b o : Nat} {cs : List Value} (h : w.rangeAt b o cs) (hb : Below w.heap.size w w') : w'.rangeAt b o cs := fun j v hv => by
  have h1 := h j v hv
  have hl : b < w.heap.size := World.block_lt_of_cell? w _ h1
  exact (hb.cell (p := ⟨b, o + j, none⟩) hl).trans h1

theorem info52 : (Tryz.prog.info? 52).map (·.size) = some 21 := by kernel_rfl
theorem stC_len (x : St5) : (stC x).length = 21 := by
  obtain ⟨_, _, _, ⟨_, _, _, _⟩, _, _, _, _, _, _, _, _, _⟩ := x
  rfl
theorem stC_info (x : St5) : (Tryz.prog.info? 52).map (·.size) = some (stC x).length := by rw [stC_len]; exact info52
theorem stC_one (x : St5) : ∀ v ∈ stC x, v.oneCell' = true := by
  obtain ⟨_, _, _, ⟨_, _, _, _⟩, ⟨_, _, _⟩, ⟨_, _, _, ⟨_, _, _⟩, _, _⟩, ⟨_, _, ⟨_, _, _⟩⟩, _, _, _, _, _, _⟩ := x
  intro v hv
  simp only [stC, tyC, plC, rvC, opC, List.cons_append, List.nil_append, List.mem_cons, List.not_mem_nil, or_false] at hv
  rcases hv with rfl | rfl | rfl | rfl | rfl | rfl | rfl | rfl | rfl | rfl | rfl | rfl | rfl | rfl | rfl | rfl | rfl | rfl | rfl | rfl | rfl <;> rfl
theorem Row.range {α : Type} {w : World} {b off sz : Nat} {l : List α} {C : α → List Value} (h : ∀ (i : Nat) (x : α), l[i]? = some x → ∀ (j : Nat) (v : Value), (C x)[j]? = some v → w.cell? ⟨b, off + i * sz + j, none⟩ = some v) (i : Nat) (x : α) (hx : l[i]? = some x) : w.rangeAt b (off + i * sz) (C x) := h i x hx
end Go.Proofs.YtgogdcpgfmndnaaGreatDoor
