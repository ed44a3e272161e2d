/-
  Boxes of many cells, block by block: a copy into a variable that was just made, stores into a piece of it, a guarded load. No conditions: laws.
-/
import Derived.Test.YtgogdcpgfmndnaaGreatDoorTBox
namespace Go.Proofs.YtgogdcpgfmndnaaGreatDoor
open Go.RowKit

/-- A list whose elements from o on are others. -/
def splL : List Value → Nat → List Value → List Value
  | l, _, [] => l
  | l, o, v :: vs => splL (l.set o v) (o + 1) vs
theorem splL_full : ∀ (vs pre l : List Value), l.length = vs.length → splL (pre ++ l) pre.length vs = pre ++ vs
  | [], pre, l, h => by simp at h; simp [splL, h]
  | v :: vs, pre, [], h => by simp at h
  | v :: vs, pre, a :: l, h => by
    have e : (pre ++ a :: l).set pre.length v = (pre ++ [v]) ++ l := by simp
    rw [splL, e]
    have := splL_full vs (pre ++ [v]) l (by simpa using h)
    simpa using this
theorem splL_all (vs l : List Value) (h : l.length = vs.length) : splL l 0 vs = vs := by simpa using splL_full vs [] l h
theorem heap_setCells (b : Nat) (t : TypeId) : ∀ (vs : List Value) (o : Nat) (w : World) (l : List Value), w.heap[b]? = some (.cells l.toArray t) → (w.setCells b o vs).heap[b]? = some (.cells (splL l o vs).toArray t)
  | [], _, _, _, h => h
  | v :: vs, o, w, l, h => by
    have h1 := heap_setCell_same w b o _ t v h
    refine heap_setCells b t vs (o + 1) _ (l.set o v) ?_
    simpa using h1
theorem heap_setCells_other (b k : Nat) (hk : k ≠ b) : ∀ (vs : List Value) (o : Nat) (w : World), (w.setCells b o vs).heap[k]? = w.heap[k]?
  | [], _, _ => rfl
  | v :: vs, o, w => (heap_setCells_other b k hk vs (o + 1) _).trans (Below.heap_setCell w ⟨b, o, none⟩ v k hk)

/-- A copy into a variable that was just made: the block is known whole. -/
theorem wpList_store_new2 {P : Program} {ops : Array Oper} {rest : List Oper} {op : Oper} {a : Act} {Q : Exit → Act → World → Prop} (hgd : op.guard = none) (ty : TypeId) (x y : Operand) (ho : op.op = .store ty x y) (w : World) (Z : Array Value) (t : TypeId) (g : Nat) (hg : g = w.heap.size)
    (hx : a.eval x = .pointer (some ⟨g, 0, none⟩)) (cs : List Value) (hy : a.eval y = .agg cs.toArray) (hZ : Z.size = cs.length) (hi : (P.info? ty).map (·.size) = some cs.length) (h1 : ∀ v ∈ cs, v.oneCell' = true)
    (h : ∀ W, Below w.heap.size w W → W.heap[g]? = some (.cells cs.toArray t) → W.heap.size = w.heap.size + 1 → wpList P ops Q rest (a.put op.dst undef) W) :
    wpList P ops Q (op :: rest) a (w.alloc (.cells Z t)) := by
  subst hg
  have ht : (w.alloc (.cells Z t)).there w.heap.size 0 cs.length := there_new w Z t _ (by omega)
  refine wpList_store_mid hgd ty x y ho w.heap.size 0 cs.toArray hx hy (by simpa using ht) (by simpa using hi) (all_oneCell_toArray h1) ?_
  refine h _ ?_ ?_ ?_
  · exact below_setCells _ _ (Nat.le_refl _) _ _ _ _ (alloc_below w _)
  · have hb := heap_setCells w.heap.size t cs 0 (w.alloc (.cells Z t)) Z.toList (by rw [heap_alloc_new])
    rw [splL_all cs Z.toList (by simpa using hZ)] at hb
    simpa using hb
  · rw [size_setCells]; simp

theorem run_storeVar_box {P : Program} (w : World) (b o : Nat) (ty : TypeId) (v : Value) (vs : List Value) (hv : v.cells = vs.toArray) (ht : w.there b o vs.length) (hi : (P.info? ty).map (·.size) = some vs.length) (h1 : ∀ v ∈ vs, v.oneCell' = true) :
    (storeVar ty ⟨b, o, none⟩ v).run P w = .ok () (w.setCells b o vs) := by
  have := run_storeCells_cells (P := P) b o vs 0 w (fun j hj => by simpa using (ht j hj).1) (fun j hj => by simpa using (ht j hj).2) h1
  cases hq : P.info? ty with
  | none => simp [hq] at hi
  | some i =>
    have hs : vs.length = i.size := by simp [hq] at hi; omega
    simp only [Nat.add_zero] at this
    simp [storeVar, sizeOf, typeInfo, hq, hv, hs, this]

theorem there_box {w : World} {b : Nat} {cs : List Value} {t : TypeId} (h : w.heap[b]? = some (.cells cs.toArray t)) (o n : Nat) (hn : o + n ≤ cs.length) : w.there b o n := fun j hj => by
  have h0 := there_block h cs.length (by simp) (o + j) (by omega)
  simpa using h0

theorem cell_other {w W : World} {b k o : Nat} {v : Value} (h : ∀ k, k ≠ b → W.heap[k]? = w.heap[k]?) (hk : k ≠ b) (hc : w.cell? ⟨k, o, none⟩ = some v) : W.cell? ⟨k, o, none⟩ = some v := by
  simp only [World.cell?, h k hk] at hc ⊢
  exact hc

/-- A store into a piece of a box whose block is known. -/
theorem wpList_store_box {P : Program} {ops : Array Oper} {rest : List Oper} {op : Oper} {a : Act} {w : World} {Q : Exit → Act → World → Prop} (hgd : op.guard = none) (ty : TypeId) (x y : Operand) (ho : op.op = .store ty x y) (b o : Nat)
    (hx : a.eval x = .pointer (some ⟨b, o, none⟩)) (v : Value) (hy : a.eval y = v) (vs : List Value) (hv : v.cells = vs.toArray) (cs : List Value) (t : TypeId) (hbox : w.heap[b]? = some (.cells cs.toArray t)) (hlen : o + vs.length ≤ cs.length)
    (hi : (P.info? ty).map (·.size) = some vs.length) (h1 : ∀ v ∈ vs, v.oneCell' = true) (B : Nat) (hB : B ≤ b) (w0 : World) (hb0 : Below B w0 w)
    (h : ∀ W, Below B w0 W → W.heap[b]? = some (.cells (splL cs o vs).toArray t) → (∀ k, k ≠ b → W.heap[k]? = w.heap[k]?) → wpList P ops Q rest (a.put op.dst undef) W) : wpList P ops Q (op :: rest) a w :=
  wpList_plain hgd fun _ hK => by
    unfold Oper.wp execOp
    have hr := run_storeVar_box (P := P) w b o ty v vs hv (there_box hbox o _ hlen) hi h1
    simp only [ho, hx, hy, Instr.storeAt, Instr.sureAddr, Sem.run_bind, Sem.run_pure, Result.andThen_ok, hr]
    exact hK _ _ (h _ (below_setCells B b hB _ _ _ _ hb0) (heap_setCells b t vs o w cs hbox) (fun k hk => heap_setCells_other b k hk vs o w))

/-- A guarded load of many cells. -/
theorem wpList_load_midW {P : Program} {ops : Array Oper} {rest : List Oper} {op : Oper} {a : Act} {w : World} {Q : Exit → Act → World → Prop} (hw : Region.wanted op (yielded ops a.tmps) = true) (ty : TypeId) (x : Operand) (ho : op.op = .load ty x)
    (b o : Nat) (hx : a.eval x = .pointer (some ⟨b, o, none⟩)) (cs : List Value) (d : TypeDesc) (hc : w.rangeAt b o cs)
    (hu : P.underlying ty = some d) (hd : d.isRow = true) (hi : (P.info? ty).map (·.size) = some cs.length)
    (h : wpList P ops Q rest (a.put op.dst (.agg cs.toArray)) w) : wpList P ops Q (op :: rest) a w :=
  wpList_step fun K hK => by
    rw [if_pos hw]
    exact wp_load_mid ty x ho b o hx cs d hc hu hd hi (hK _ _ h)
theorem rangeAt_of_box {w : World} {b : Nat} {cs : List Value} {t : TypeId} (h : w.heap[b]? = some (.cells cs.toArray t)) : w.rangeAt b 0 cs := fun j v hv => by
  simp only [World.cell?, Nat.zero_add, h]
  simpa using hv
end Go.Proofs.YtgogdcpgfmndnaaGreatDoor
