/-
  Boxes of many cells: stores and loads of a whole value; the reader beside a box. No conditions: laws.
-/
import Derived.Test.YtggdpgaedmegbaaGreatDoorJPNeed
import Derived.Deep.MidRow
namespace Go.Proofs.YtggdpgaedmegbaaGreatDoor
open Go.RowKit


theorem below_setCells (B b : Nat) (hB : B ≤ b) : ∀ (vs : List Value) (o : Nat) (w0 w : World), Below B w0 w → Below B w0 (w.setCells b o vs)
  | [], _, _, _, h => h
  | v :: vs, o, w0, _, h => below_setCells B b hB vs (o + 1) w0 _ (h.setCell (p := ⟨b, o, none⟩) hB v)
theorem size_setCells (b : Nat) : ∀ (vs : List Value) (o : Nat) (w : World), (w.setCells b o vs).heap.size = w.heap.size
  | [], _, _ => rfl
  | _ :: vs, o, _ => (size_setCells b vs (o + 1) _).trans (by simp [World.setCell])
theorem there_block {w : World} {b : Nat} {Z : Array Value} {t : TypeId} (h : w.heap[b]? = some (.cells Z t)) (n : Nat) (hn : n ≤ Z.size) : w.there b 0 n := fun j hj => by
  refine ⟨?_, by simp [World.frozen?, h]⟩
  have hz : j < Z.size := by omega
  simp only [World.cell?, h, Nat.zero_add, Array.getElem?_eq_getElem hz]
  rfl
theorem there_new (w : World) (Z : Array Value) (t : TypeId) (n : Nat) (hn : n ≤ Z.size) : (w.alloc (.cells Z t)).there w.heap.size 0 n := there_block (heap_alloc_new _ _) n hn

/-- A value of many cells is stored into a variable that was just made. -/
theorem wpList_store_new {P : Program} {ops : Array Oper} {rest : List Oper} {op : Oper} {a : Act} {Q : Exit → Act → World → Prop} (hgd : op.guard = none) (ty : TypeId) (x y : Operand) (ho : op.op = .store ty x y) (w : World) (Z : Array Value) (t : TypeId)
    (hx : a.eval x = .pointer (some ⟨w.heap.size, 0, none⟩)) (cs : List Value) (hy : a.eval y = .agg cs.toArray) (hZ : cs.length ≤ Z.size) (hi : (P.info? ty).map (·.size) = some cs.length) (h1 : ∀ v ∈ cs, v.oneCell' = true)
    (h : ∀ W, Below w.heap.size w W → W.rangeAt w.heap.size 0 cs → W.heap.size = w.heap.size + 1 → wpList P ops Q rest (a.put op.dst undef) W) :
    wpList P ops Q (op :: rest) a (w.alloc (.cells Z t)) := by
  have ht : (w.alloc (.cells Z t)).there w.heap.size 0 cs.length := there_new w Z t _ hZ
  refine wpList_store_mid hgd ty x y ho w.heap.size 0 cs.toArray hx hy (by simpa using ht) (by simpa using hi) (all_oneCell_toArray h1) ?_
  refine h _ ?_ ?_ ?_
  · exact below_setCells _ _ (Nat.le_refl _) _ _ _ _ (alloc_below w _)
  · exact World.rangeAt_setCells_same _ _ _ _ ht
  · rw [size_setCells]; simp

theorem rangeAt_box (w : World) (cs : List Value) (t : TypeId) : (w.alloc (.cells cs.toArray t)).rangeAt w.heap.size 0 cs := fun j v hv => by
  simp only [World.cell?, Nat.zero_add]
  rw [heap_alloc_new]
  simpa using hv
theorem rangeAt_below {w w' : World} {b o : Nat} {cs : List Value} (h : w.rangeAt b o cs) (hb : Below w.heap.size w w') : w'.rangeAt b o cs := fun j v hv => by
  have h1 := h j v hv
  have hl : b < w.heap.size := World.block_lt_of_cell? w _ h1
  exact (hb.cell (p := ⟨b, o + j, none⟩) hl).trans h1

theorem Row.range {α : Type} {w : World} {b off sz : Nat} {l : List α} {C : α → List Value} (h : ∀ (i : Nat) (x : α), l[i]? = some x → ∀ (j : Nat) (v : Value), (C x)[j]? = some v → w.cell? ⟨b, off + i * sz + j, none⟩ = some v) (i : Nat) (x : α) (hx : l[i]? = some x) : w.rangeAt b (off + i * sz) (C x) := h i x hx


/-- A list whose elements from o on are others. -/
def splL : List Value → Nat → List Value → List Value
  | l, _, [] => l
  | l, o, v :: vs => splL (l.set o v) (o + 1) vs
theorem splL_full : ∀ (vs pre l : List Value), l.length = vs.length → splL (pre ++ l) pre.length vs = pre ++ vs
  | [], pre, l, h => by simp at h; simp [splL, h]
  | v :: vs, pre, [], h => by simp at h
  | v :: vs, pre, a :: l, h => by
    have e : (pre ++ a :: l).set pre.length v = (pre ++ [v]) ++ l := by simp
    rw [splL, e]
    have := splL_full vs (pre ++ [v]) l (by simpa using h)
    simpa using this
theorem splL_all (vs l : List Value) (h : l.length = vs.length) : splL l 0 vs = vs := by simpa using splL_full vs [] l h
theorem heap_setCells (b : Nat) (t : TypeId) : ∀ (vs : List Value) (o : Nat) (w : World) (l : List Value), w.heap[b]? = some (.cells l.toArray t) → (w.setCells b o vs).heap[b]? = some (.cells (splL l o vs).toArray t)
  | [], _, _, _, h => h
  | v :: vs, o, w, l, h => by
    have h1 := heap_setCell_same w b o _ t v h
    refine heap_setCells b t vs (o + 1) _ (l.set o v) ?_
    simpa using h1
theorem heap_setCells_other (b k : Nat) (hk : k ≠ b) : ∀ (vs : List Value) (o : Nat) (w : World), (w.setCells b o vs).heap[k]? = w.heap[k]?
  | [], _, _ => rfl
  | v :: vs, o, w => (heap_setCells_other b k hk vs (o + 1) _).trans (Below.heap_setCell w ⟨b, o, none⟩ v k hk)

/-- A copy into a variable that was just made: the block is known whole. -/
theorem wpList_store_new2 {P : Program} {ops : Array Oper} {rest : List Oper} {op : Oper} {a : Act} {Q : Exit → Act → World → Prop} (hgd : op.guard = none) (ty : TypeId) (x y : Operand) (ho : op.op = .store ty x y) (w : World) (Z : Array Value) (t : TypeId) (g : Nat) (hg : g = w.heap.size)
    (hx : a.eval x = .pointer (some ⟨g, 0, none⟩)) (cs : List Value) (hy : a.eval y = .agg cs.toArray) (hZ : Z.size = cs.length) (hi : (P.info? ty).map (·.size) = some cs.length) (h1 : ∀ v ∈ cs, v.oneCell' = true)
    (h : ∀ W, Below w.heap.size w W → W.heap[g]? = some (.cells cs.toArray t) → W.heap.size = w.heap.size + 1 → wpList P ops Q rest (a.put op.dst undef) W) :
    wpList P ops Q (op :: rest) a (w.alloc (.cells Z t)) := by
  subst hg
  have ht : (w.alloc (.cells Z t)).there w.heap.size 0 cs.length := there_new w Z t _ (by omega)
  refine wpList_store_mid hgd ty x y ho w.heap.size 0 cs.toArray hx hy (by simpa using ht) (by simpa using hi) (all_oneCell_toArray h1) ?_
  refine h _ ?_ ?_ ?_
  · exact below_setCells _ _ (Nat.le_refl _) _ _ _ _ (alloc_below w _)
  · have hb := heap_setCells w.heap.size t cs 0 (w.alloc (.cells Z t)) Z.toList (by rw [heap_alloc_new])
    rw [splL_all cs Z.toList (by simpa using hZ)] at hb
    simpa using hb
  · rw [size_setCells]; simp

theorem run_storeVar_box {P : Program} (w : World) (b o : Nat) (ty : TypeId) (v : Value) (vs : List Value) (hv : v.cells = vs.toArray) (ht : w.there b o vs.length) (hi : (P.info? ty).map (·.size) = some vs.length) (h1 : ∀ v ∈ vs, v.oneCell' = true) :
    (storeVar ty ⟨b, o, none⟩ v).run P w = .ok () (w.setCells b o vs) := by
  have := run_storeCells_cells (P := P) b o vs 0 w (fun j hj => by simpa using (ht j hj).1) (fun j hj => by simpa using (ht j hj).2) h1
  cases hq : P.info? ty with
  | none => simp [hq] at hi
  | some i =>
    have hs : vs.length = i.size := by simp [hq] at hi; omega
    simp only [Nat.add_zero] at this
    simp [storeVar, sizeOf, typeInfo, hq, hv, hs, this]

theorem there_box {w : World} {b : Nat} {cs : List Value} {t : TypeId} (h : w.heap[b]? = some (.cells cs.toArray t)) (o n : Nat) (hn : o + n ≤ cs.length) : w.there b o n := fun j hj => by
  have h0 := there_block h cs.length (by simp) (o + j) (by omega)
  simpa using h0

theorem cell_other {w W : World} {b k o : Nat} {v : Value} (h : ∀ k, k ≠ b → W.heap[k]? = w.heap[k]?) (hk : k ≠ b) (hc : w.cell? ⟨k, o, none⟩ = some v) : W.cell? ⟨k, o, none⟩ = some v := by
  simp only [World.cell?, h k hk] at hc ⊢
  exact hc

/-- A store into a piece of a box whose block is known. -/
theorem wpList_store_box {P : Program} {ops : Array Oper} {rest : List Oper} {op : Oper} {a : Act} {w : World} {Q : Exit → Act → World → Prop} (hgd : op.guard = none) (ty : TypeId) (x y : Operand) (ho : op.op = .store ty x y) (b o : Nat)
    (hx : a.eval x = .pointer (some ⟨b, o, none⟩)) (v : Value) (hy : a.eval y = v) (vs : List Value) (hv : v.cells = vs.toArray) (cs : List Value) (t : TypeId) (hbox : w.heap[b]? = some (.cells cs.toArray t)) (hlen : o + vs.length ≤ cs.length)
    (hi : (P.info? ty).map (·.size) = some vs.length) (h1 : ∀ v ∈ vs, v.oneCell' = true) (B : Nat) (hB : B ≤ b) (w0 : World) (hb0 : Below B w0 w)
    (h : ∀ W, Below B w0 W → W.heap[b]? = some (.cells (splL cs o vs).toArray t) → (∀ k, k ≠ b → W.heap[k]? = w.heap[k]?) → wpList P ops Q rest (a.put op.dst undef) W) : wpList P ops Q (op :: rest) a w :=
  wpList_plain hgd fun _ hK => by
    unfold Oper.wp execOp
    have hr := run_storeVar_box (P := P) w b o ty v vs hv (there_box hbox o _ hlen) hi h1
    simp only [ho, hx, hy, Instr.storeAt, Instr.sureAddr, Sem.run_bind, Sem.run_pure, Result.andThen_ok, hr]
    exact hK _ _ (h _ (below_setCells B b hB _ _ _ _ hb0) (heap_setCells b t vs o w cs hbox) (fun k hk => heap_setCells_other b k hk vs o w))

/-- A guarded load of many cells. -/
theorem wpList_load_midW {P : Program} {ops : Array Oper} {rest : List Oper} {op : Oper} {a : Act} {w : World} {Q : Exit → Act → World → Prop} (hw : Region.wanted op (yielded ops a.tmps) = true) (ty : TypeId) (x : Operand) (ho : op.op = .load ty x)
    (b o : Nat) (hx : a.eval x = .pointer (some ⟨b, o, none⟩)) (cs : List Value) (d : TypeDesc) (hc : w.rangeAt b o cs)
    (hu : P.underlying ty = some d) (hd : d.isRow = true) (hi : (P.info? ty).map (·.size) = some cs.length)
    (h : wpList P ops Q rest (a.put op.dst (.agg cs.toArray)) w) : wpList P ops Q (op :: rest) a w :=
  wpList_step fun K hK => by
    rw [if_pos hw]
    exact wp_load_mid ty x ho b o hx cs d hc hu hd hi (hK _ _ h)
theorem rangeAt_of_box {w : World} {b : Nat} {cs : List Value} {t : TypeId} (h : w.heap[b]? = some (.cells cs.toArray t)) : w.rangeAt b 0 cs := fun j v hv => by
  simp only [World.cell?, Nat.zero_add, h]
  simpa using hv

theorem cells2p {w : World} {k : Nat} {v0 v1 : Value} {t : TypeId} (h : w.heap[k]? = some (.cells #[v0, v1] t)) :
    w.cell? ⟨k, 0, none⟩ = some v0 ∧ w.cell? ⟨k, 1, none⟩ = some v1 ∧ (∀ j, w.frozen? ⟨k, j, none⟩ = false) ∧ k < w.heap.size := by
  have hl := (Array.getElem?_eq_some_iff.1 h).1
  exact ⟨by simp [World.cell?, h], by simp [World.cell?, h], fun j => by simp [World.frozen?, h], hl⟩
theorem cells1p {w : World} {k : Nat} {v0 : Value} {t : TypeId} (h : w.heap[k]? = some (.cells #[v0] t)) :
    w.cell? ⟨k, 0, none⟩ = some v0 ∧ (∀ j, w.frozen? ⟨k, j, none⟩ = false) ∧ k < w.heap.size := by
  have hl := (Array.getElem?_eq_some_iff.1 h).1
  exact ⟨by simp [World.cell?, h], fun j => by simp [World.frozen?, h], hl⟩
/-- another box was written -/
theorem RdAt.box {w W : World} {b g cap : Nat} {ts : List Tok} {i dp k : Nat} (h : RdAt w b g cap ts i dp) (hb : Below k w W) (hn : ∀ x, x ≠ k → W.heap[x]? = w.heap[x]?) (hbk : b ≠ k) (hg : g ≠ k) (h9 : nG ≤ k) : RdAt W b g cap ts i dp := by
  refine ⟨(hn b hbk).trans h.at_, ⟨Nat.lt_of_lt_of_le h.toks.1 hb.size, fun i t ht => ?_⟩, h.lt, h.ne, h.ok, ?_, h.b4⟩
  · obtain ⟨a, c, d, e⟩ := h.toks.2 i t ht
    have hc : ∀ o, W.cell? ⟨g, o, none⟩ = w.cell? ⟨g, o, none⟩ := fun o => World.cell?_of_block (hn g hg)
    exact ⟨(hc _).trans a, (hc _).trans c, (hc _).trans d, (hc _).trans e⟩
  · have hbk : Below nG w W := ⟨hb.os, hb.tape, hb.output, hb.size, fun x hx => hn x (by omega)⟩
    exact h.vars.below hbk (Nat.le_refl _)
theorem Kb.box {b k : Nat} {w w1 w2 : World} (h : Kb b w w1) (hk : w.heap.size ≤ k) (hb : Below k w1 w2) (hn : ∀ x, x ≠ k → w2.heap[x]? = w1.heap[x]?) : Kb b w w2 :=
  h.next hb.os hb.tape hb.output hb.size fun x hx _ => hn x (by omega)
theorem Kb.kept {b k : Nat} {w w' : World} {o : Obj} (h : Kb b w w') (hx : w.heap[k]? = some o) (hn : k ≠ b) : w'.heap[k]? = some o :=
  (h.block k (Array.getElem?_eq_some_iff.1 hx).1 hn).trans hx
/-- a row of values is written into new boxes: what lies in the other blocks stays so -/
theorem pal2 (w : World) (a c : Obj) : Below w.heap.size w ((w.alloc a).alloc c) ∧ ((w.alloc a).alloc c).heap[w.heap.size]? = some a ∧ ((w.alloc a).alloc c).heap[w.heap.size + 1]? = some c := by
  have h1 := alloc_below w a
  have h2 := alloc_below (w.alloc a) c
  have e : (w.alloc a).heap.size = w.heap.size + 1 := by simp
  refine ⟨h1.trans (h2.mono h1.size), keepB (heap_alloc_new w a) h2, ?_⟩
  have := heap_alloc_new (w.alloc a) c
  rwa [e] at this
theorem pal3 (w : World) (a c d : Obj) : Below w.heap.size w (((w.alloc a).alloc c).alloc d) ∧ (((w.alloc a).alloc c).alloc d).heap[w.heap.size]? = some a ∧ (((w.alloc a).alloc c).alloc d).heap[w.heap.size + 1]? = some c ∧ (((w.alloc a).alloc c).alloc d).heap[w.heap.size + 1 + 1]? = some d := by
  obtain ⟨h1, h2, h3⟩ := pal2 w a c
  have h4 := alloc_below ((w.alloc a).alloc c) d
  have e : ((w.alloc a).alloc c).heap.size = w.heap.size + 1 + 1 := by simp
  refine ⟨h1.trans (h4.mono h1.size), keepB h2 h4, keepB h3 h4, ?_⟩
  have := heap_alloc_new ((w.alloc a).alloc c) d
  rwa [e] at this
theorem und_box {w w' : World} {B B' k : Nat} (hb : Below k w w') (hn : ∀ x, x ≠ k → w'.heap[x]? = w.heap[x]?) (hk : k < B) (hB : B' ≤ B) : Und (eb w B none) (eb w' B' none) :=
  eb_und hb.size fun x _ h1 _ => ⟨Nat.le_trans hB h1, by simp, hn x (by omega)⟩
theorem blk_lt {w : World} {k : Nat} {o : Obj} (h : w.heap[k]? = some o) : k < w.heap.size := (Array.getElem?_eq_some_iff.1 h).1
theorem bind_ok {α β : Type} {R : Rd α} {F : α → Rd β} {l l' : List Tok} {a : α} (h : R l = .ok a l') : bindR R F l = F a l' := by unfold bindR; rw [h]
theorem bind_no {α β : Type} {R : Rd α} {F : α → Rd β} {l : List Tok} {e : Int} {p : Nat} (h : R l = .no e p) : bindR R F l = .no e p := by unfold bindR; rw [h]
theorem map_ok {α β : Type} {R : Rd α} {f : α → β} {l l' : List Tok} {a : α} (h : R l = .ok a l') : mapR R f l = .ok (f a) l' := bind_ok h
theorem map_no {α β : Type} {R : Rd α} {f : α → β} {l : List Tok} {e : Int} {p : Nat} (h : R l = .no e p) : mapR R f l = .no e p := bind_no h
theorem opt_yes {α : Type} {w : World} {b g cap : Nat} {ts : List Tok} {i dp : Nat} (H : RdAt w b g cap ts i dp) {t : Tok} (ht : ts[i]? = some t) {s : List UInt8} {yes no : Rd α} (h : t.text = s) : optR s yes no (ts.drop i) = yes (ts.drop (i + 1)) := by
  unfold optR
  rw [H.hd ht, if_pos h, drop_tail]
theorem opt_no {α : Type} {w : World} {b g cap : Nat} {ts : List Tok} {i dp : Nat} (H : RdAt w b g cap ts i dp) {t : Tok} (ht : ts[i]? = some t) {s : List UInt8} {yes no : Rd α} (h : t.text ≠ s) : optR s yes no (ts.drop i) = no (ts.drop i) := by
  unfold optR
  rw [H.hd ht, if_neg h]
end Go.Proofs.YtggdpgaedmegbaaGreatDoor
