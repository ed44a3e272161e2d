/-
  mem's memory and the document's lie side by side. No conditions: lemmas.
-/
import Derived.Test.YtbcockaleegicaaSim
import Derived.Test.YtbcockaleegicaaKeepsP
namespace Go.Proofs.Ytbcockaleegicaa
open Go.RowKit

def MemIs (B : Nat) (w0 w : World) (mb : Nat) (S : MS) : Prop := ∃ lm loc, St B w0 w mb lm loc S
def RefIs (B : Nat) (w : World) (rb : Nat) (r : RS) : Prop := ∃ vb vc, RefAt B w rb r vb vc
/-- a variable of the law -/
structure Vis (B : Nat) (w : World) (b : Nat) (t : TypeId) (cs : Array Value) : Prop where
  heap : w.heap[b]? = some (.cells cs t (0, 0))
  base : B ≤ b

section
variable {B : Nat} {w0 w w' : World} {mb rb b : Nat} {S S' : MS} {r r' : RS} {t : TypeId} {cs : Array Value}

theorem MemIs.next (h : MemIs B w0 w mb S) (hb : Below w.heap.size w w') : MemIs B w0 w' mb S := by
  obtain ⟨lm, loc, T⟩ := h
  exact ⟨lm, loc, T.next hb⟩
theorem RefIs.next (h : RefIs B w rb r) (hb : Below w.heap.size w w') : RefIs B w' rb r := by
  obtain ⟨vb, vc, R⟩ := h
  exact ⟨vb, vc, R.below hb⟩
theorem Vis.lt (h : Vis B w b t cs) : b < w.heap.size := (Array.getElem?_eq_some_iff.1 h.heap).1
theorem Vis.next (h : Vis B w b t cs) (hb : Below w.heap.size w w') : Vis B w' b t cs := ⟨(hb.block b h.lt).trans h.heap, h.base⟩
theorem Vis.new (hB : B ≤ w.heap.size) (cs : Array Value) (t : TypeId) : Vis B (w.alloc (.cells cs t)) w.heap.size t cs := ⟨heap_alloc_new w _, hB⟩
theorem below_alloc (w : World) (o : Obj) : Below w.heap.size w (w.alloc o) := (Below.refl _ _).alloc (Nat.le_refl _) _
theorem Vis.cell (h : Vis B w b t cs) (j : Nat) (v : Value) (hv : cs[j]? = some v) : w.cell? ⟨b, j, none⟩ = some v := by simp [World.cell?, h.heap, hv]
theorem Vis.frozen (h : Vis B w b t cs) (j : Nat) : w.frozen? ⟨b, j, none⟩ = false := by simp [World.frozen?, h.heap]

theorem RefIs.mem {lm : Option Nat} {loc : Nat → Nat} (h : RefIs B w rb r) (T : RepAt w mb lm loc S) (ht : Turned w w' mb lm loc S S') : RefIs B w' rb r := by
  obtain ⟨vb, vc, R⟩ := h
  obtain ⟨_, _, _, _, K⟩ := ht
  exact ⟨vb, vc, (K.block rb R.lt (row_free T R.obj (by decide) (by decide))).trans R.obj, R.base, R.room0, R.room1, row_turned T K (by decide) (by decide) R.blocks, row_turned T K (by decide) (by decide) R.cells, R.lenb, R.lenc, R.words⟩
theorem Vis.mem {lm : Option Nat} {loc : Nat → Nat} (h : Vis B w b t cs) (T : RepAt w mb lm loc S) (ht : Turned w w' mb lm loc S S') (h1 : t ≠ 63) (h2 : t ≠ 69) : Vis B w' b t cs := by
  obtain ⟨_, _, _, _, K⟩ := ht
  exact ⟨(K.block b h.lt (row_free T h.heap h1 h2)).trans h.heap, h.base⟩
theorem MemIs.mem {lm : Option Nat} {loc : Nat → Nat} (T : St B w0 w mb lm loc S) (ht : Turned w w' mb lm loc S S') : MemIs B w0 w' mb S' := by
  obtain ⟨lm', loc', T', _⟩ := T.turned ht
  exact ⟨lm', loc', T'⟩

theorem owned_type {lm : Option Nat} {loc : Nat → Nat} (R : RepAt w mb lm loc S) {g : Nat} (ho : Owned mb lm loc S g) {c : Array Value} {e : TypeId} {f : Nat × Nat} (hg : w.heap[g]? = some (.cells c e f)) : e = 63 ∨ e = 69 := by
  rcases ho with rfl | h | ⟨k, l, h, rfl⟩
  · rw [R.obj] at hg
    simp only [memObj, Option.some.injEq, Obj.cells.injEq] at hg
    exact .inl hg.2.1.symm
  · obtain ⟨D, ⟨es, clock, hb, _⟩, _⟩ := R.map g h
    rw [hb] at hg
    cases hg
  · rw [R.blk k l h] at hg
    simp only [Option.some.injEq, Obj.cells.injEq] at hg
    exact .inr hg.2.1.symm
theorem RKept.below (h : RKept B w w') (hB : B ≤ w.heap.size) : Below B w w' := ⟨h.os, h.tape, h.output, h.size, fun b hb => h.block b (by omega) (.inl hb)⟩
theorem MemIs.ref (h : MemIs B w0 w mb S) (k : RKept B w w') : MemIs B w0 w' mb S := by
  obtain ⟨lm, loc, T⟩ := h
  refine ⟨lm, loc, T.rep.keep fun b ho => k.block b (T.rep.lt b ho) (.inr ?_), T.own, T.below.trans (k.below T.le), Nat.le_trans T.le k.size⟩
  rintro ⟨c, e, f, h1, h2⟩
  rcases owned_type T.rep ho h1 with rfl | rfl <;> simp at h2
theorem Vis.ref (h : Vis B w b t cs) (k : RKept B w w') (h1 : t ≠ 46) (h2 : t ≠ 48) (h3 : t ≠ 71) : Vis B w' b t cs := by
  refine ⟨(k.block b h.lt (.inr ?_)).trans h.heap, h.base⟩
  rintro ⟨c, e, f, h4, h5⟩
  rw [h.heap] at h4
  simp only [Option.some.injEq, Obj.cells.injEq] at h4
  obtain ⟨_, rfl, _⟩ := h4
  rcases h5 with h | h | h
  · exact h1 h
  · exact h2 h
  · exact h3 h

def set3 (w : World) (b : Nat) (x : Wd) : World := ((w.setCell ⟨b, 0, none⟩ (.bool x.p)).setCell ⟨b, 1, none⟩ (.int .i64 x.a)).setCell ⟨b, 2, none⟩ (.int .i64 x.n)
def wcs (x : Wd) : Array Value := #[.bool x.p, .int .i64 x.a, .int .i64 x.n]
theorem MemIs.one (h : MemIs B w0 w mb S) (v : Vis B w b 30 cs) (j : Nat) (u : Value) : MemIs B w0 (w.setCell ⟨b, j, none⟩ u) mb S := by
  obtain ⟨lm, loc, T⟩ := h
  refine ⟨lm, loc, T.rep.keep fun g ho => Below.heap_setCell _ _ _ _ fun e => ?_, T.own, T.below.setCell v.base _, by simpa [World.setCell] using T.le⟩
  subst e
  rcases owned_type T.rep ho v.heap with h | h <;> exact absurd h (by decide)
theorem Vis.one (v : Vis B w b 30 cs) (j : Nat) (u : Value) : Vis B (w.setCell ⟨b, j, none⟩ u) b 30 (cs.setIfInBounds j u) := ⟨heap_setCell_same v.heap j u, v.base⟩
theorem RefIs.one (h : RefIs B w rb r) (v : Vis B w b 30 cs) (j : Nat) (u : Value) : RefIs B (w.setCell ⟨b, j, none⟩ u) rb r := by
  obtain ⟨vb, vc, R⟩ := h
  exact ⟨vb, vc, R.box (a := ⟨b, j, none⟩) v.heap u⟩
theorem MemIs.set (h : MemIs B w0 w mb S) (y : Wd) (v : Vis B w b 30 (wcs y)) (x : Wd) : MemIs B w0 (set3 w b x) mb S := ((h.one v 0 _).one (v.one 0 _) 1 _).one ((v.one 0 _).one 1 _) 2 _
theorem RefIs.set (h : RefIs B w rb r) (y : Wd) (v : Vis B w b 30 (wcs y)) (x : Wd) : RefIs B (set3 w b x) rb r := ((h.one v 0 _).one (v.one 0 _) 1 _).one ((v.one 0 _).one 1 _) 2 _
theorem Vis.set (y : Wd) (v : Vis B w b 30 (wcs y)) (x : Wd) : Vis B (set3 w b x) b 30 (wcs x) := ((v.one 0 _).one 1 _).one 2 _
theorem Vis.off {b' : Nat} (h : Vis B w b' t cs) (hne : b' ≠ b) (x : Wd) : Vis B (set3 w b x) b' t cs :=
  ⟨((Below.heap_setCell _ _ _ _ hne).trans ((Below.heap_setCell _ _ _ _ hne).trans (Below.heap_setCell _ _ _ _ hne))).trans h.heap, h.base⟩

/-- both, alike -/
structure Both (B : Nat) (w0 w : World) (mb rb : Nat) (S : MS) (r : RS) : Prop where
  mem : MemIs B w0 w mb S
  ref : RefIs B w rb r
  sim : Sim S r
  ok : ∀ b ∈ r.bs, b.1 ≤ 1048576
theorem Both.next (h : Both B w0 w mb rb S r) (hb : Below w.heap.size w w') : Both B w0 w' mb rb S r := ⟨h.mem.next hb, h.ref.next hb, h.sim, h.ok⟩

/-- what a step leaves -/
structure Nice (r r' : RS) (S' : MS) : Prop where
  sim : Sim S' r'
  ok : ∀ b ∈ r'.bs, b.1 ≤ 1048576
  bs : r'.bs.length ≤ r.bs.length + 1
  cs : r'.cs.length ≤ r.cs.length + 100

theorem nice_alloc (h : Sim S r) (ok : ∀ b ∈ r.bs, b.1 ≤ 1048576) (hr : r.room ≤ 1048576) {n : Int} {x : Wd} {er : Int} (e : allocR S n = ((x, er), S')) : ∃ r', r.allocR n = ((x, er), r') ∧ Nice r r' S' := by
  obtain ⟨h1, h2⟩ := h.allocR n
  rw [e] at h1 h2
  refine ⟨(r.allocR n).2, Prod.ext h1.symm rfl, h2, ?_, ?_, ?_⟩
  all_goals unfold RS.allocR
  · split
    · exact ok
    · split
      · exact ok
      · rename_i h3
        intro b hb
        rcases List.mem_append.1 hb with hb | hb
        · exact ok b hb
        · rw [List.mem_singleton.1 hb]
          show n.toNat ≤ 1048576
          omega
  · split
    · exact Nat.le_succ _
    · split
      · exact Nat.le_succ _
      · rw [List.length_append]; exact Nat.le_refl _
  · split
    · exact Nat.le_add_right _ _
    · split
      · exact Nat.le_add_right _ _
      · exact Nat.le_add_right _ _
theorem nice_free (h : Sim S r) (ok : ∀ b ∈ r.bs, b.1 ≤ 1048576) {p : Bool} {a n er : Int} (e : freeR S p a n = (er, S')) : ∃ r', r.freeR p a n = (er, r') ∧ Nice r r' S' := by
  obtain ⟨h1, h2⟩ := h.freeR p a n
  rw [e] at h1 h2
  refine ⟨(r.freeR p a n).2, Prod.ext h1.symm rfl, h2, ?_, ?_, ?_⟩
  all_goals unfold RS.freeR
  · split
    · exact ok
    · split
      · exact ok
      · intro b hb
        rcases List.mem_or_eq_of_mem_set hb with hb | rfl
        · exact ok b hb
        · show r.size a ≤ 1048576
          unfold RS.size
          cases hx : r.bs[(a - 1).toNat]? with
          | none => simp
          | some y => exact ok y (List.mem_of_getElem? hx)
  · split
    · exact Nat.le_succ _
    · split
      · exact Nat.le_succ _
      · rw [List.length_set]; exact Nat.le_succ _
  · split
    · exact Nat.le_add_right _ _
    · split
      · exact Nat.le_add_right _ _
      · exact Nat.le_add_right _ _
theorem nice_store (h : Sim S r) (ok : ∀ b ∈ r.bs, b.1 ≤ 1048576) {p : Bool} {a n er : Int} {x : Wd} (e : storeR S p a n x = (er, S')) : ∃ r', r.storeR p a n x = (er, r') ∧ Nice r r' S' := by
  obtain ⟨h1, h2⟩ := h.storeR p a n x
  rw [e] at h1 h2
  refine ⟨(r.storeR p a n x).2, Prod.ext h1.symm rfl, h2, ?_, ?_, ?_⟩
  all_goals unfold RS.storeR
  · split
    · exact ok
    · split <;> exact ok
  · split
    · exact Nat.le_succ _
    · split <;> exact Nat.le_succ _
  · split
    · exact Nat.le_add_right _ _
    · split
      · exact Nat.le_add_right _ _
      · have := List.length_filter_le (other a n) r.cs
        simp only [List.length_append, List.length_singleton]; omega
theorem dropN_len (r : RS) (a n : Int) : ∀ C, (r.dropN a n C).cs.length ≤ r.cs.length
  | 0 => Nat.le_refl _
  | C + 1 => Nat.le_trans (List.length_filter_le _ _) (dropN_len r a n C)
theorem nice_clear (h : Sim S r) (ok : ∀ b ∈ r.bs, b.1 ≤ 1048576) {p : Bool} {a n c er : Int} (e : clearR S p a n c = (er, S')) : ∃ r', r.clearR p a n c = (er, r') ∧ Nice r r' S' := by
  obtain ⟨h1, h2⟩ := h.clearR p a n c
  rw [e] at h1 h2
  refine ⟨(r.clearR p a n c).2, Prod.ext h1.symm rfl, h2, ?_, ?_, ?_⟩
  all_goals unfold RS.clearR
  · split
    · exact ok
    · split
      · exact ok
      · split
        · exact ok
        · rw [(dropN_room _ _ _ _).2]; exact ok
  · split
    · exact Nat.le_succ _
    · split
      · exact Nat.le_succ _
      · split
        · exact Nat.le_succ _
        · rw [(dropN_room _ _ _ _).2]; exact Nat.le_succ _
  · split
    · exact Nat.le_add_right _ _
    · split
      · exact Nat.le_add_right _ _
      · split
        · exact Nat.le_add_right _ _
        · exact Nat.le_trans (dropN_len _ _ _ _) (Nat.le_add_right _ _)
theorem nice_copy (h : Sim S r) (ok : ∀ b ∈ r.bs, b.1 ≤ 1048576) {p p' : Bool} {a n a' n' c er : Int} (hc : c ≤ 100) (e : copyR S p a n p' a' n' c = (er, S')) : ∃ r', r.copyR p a n p' a' n' c = (er, r') ∧ Nice r r' S' := by
  obtain ⟨h1, h2⟩ := h.copyR p a n p' a' n' c
  rw [e] at h1 h2
  refine ⟨(r.copyR p a n p' a' n' c).2, Prod.ext h1.symm rfl, h2, ?_, ?_, ?_⟩
  all_goals unfold RS.copyR
  · split
    · exact ok
    · split
      · exact ok
      · split
        · exact ok
        · split
          · exact ok
          · rw [(storeN_room _ _ _ _ _).2]; exact ok
  · split
    · exact Nat.le_succ _
    · split
      · exact Nat.le_succ _
      · split
        · exact Nat.le_succ _
        · split
          · exact Nat.le_succ _
          · rw [(storeN_room _ _ _ _ _).2]; exact Nat.le_succ _
  · split
    · exact Nat.le_add_right _ _
    · split
      · exact Nat.le_add_right _ _
      · split
        · exact Nat.le_add_right _ _
        · split
          · exact Nat.le_add_right _ _
          · exact Nat.le_trans (storeN_len _ _ _ _ _) (by omega)
end
end Go.Proofs.Ytbcockaleegicaa
