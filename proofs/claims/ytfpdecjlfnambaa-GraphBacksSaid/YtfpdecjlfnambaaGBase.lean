/-
  Graph: how things lie in the heap (bools, ints, boxes), and what leaves them so. No conditions: definitions and laws.
-/
import Derived.Test.YtfpdecjlfnambaaGWp
namespace Go.Proofs.Ytfpdecjlfnambaa
open Go Go.RowKit

/-- Block b of w holds these cells. -/
abbrev Bx (w : World) (b : Nat) (t : TypeId) (l : List Value) : Prop := w.heap[b]? = some (.cells l.toArray t (0, 0))
theorem Bx.lt {w : World} {b : Nat} {t : TypeId} {l : List Value} (h : Bx w b t l) : b < w.heap.size := (Array.getElem?_eq_some_iff.1 h).1
theorem Bx.cell {w : World} {b : Nat} {t : TypeId} {l : List Value} (h : Bx w b t l) (j : Nat) : w.cell? ⟨b, j, none⟩ = l[j]? := by
  simp [World.cell?, show w.heap[b]? = _ from h]
theorem Bx.frozen {w : World} {b : Nat} {t : TypeId} {l : List Value} (h : Bx w b t l) (j : Nat) : w.frozen? ⟨b, j, none⟩ = false := by
  simp [World.frozen?, show w.heap[b]? = _ from h]
theorem Bx.set {w : World} {b : Nat} {t : TypeId} {l : List Value} (h : Bx w b t l) (j : Nat) (v : Value) : Bx (w.setCell ⟨b, j, none⟩ v) b t (l.set j v) := by
  have hlt := h.lt
  have hb : w.heap[b] = .cells l.toArray t (0, 0) := by
    have := h
    rw [Bx, Array.getElem?_eq_getElem hlt] at this
    exact Option.some.inj this
  show (w.heap.modify b _)[b]? = _
  rw [Array.getElem?_eq_getElem (by rw [Array.size_modify]; exact hlt), Array.getElem_modify_self, hb]
  simp
theorem Bx.new (w : World) (t : TypeId) (l : List Value) : Bx (w.alloc (.cells l.toArray t)) w.heap.size t l := World.alloc_heap_new w _
theorem Bx.of_heap {w w' : World} {b : Nat} {t : TypeId} {l : List Value} (h : Bx w b t l) (he : w'.heap[b]? = w.heap[b]?) : Bx w' b t l := by rw [Bx, he]; exact h
theorem Bx.far {w : World} {b : Nat} {t : TypeId} {l : List Value} (h : Bx w b t l) {p : Addr} (hp : p.block ≠ b) (v : Value) : Bx (w.setCell p v) b t l := h.of_heap (Below.heap_setCell _ _ _ _ (Ne.symm hp))
theorem Bx.alloc {w : World} {b : Nat} {t : TypeId} {l : List Value} (h : Bx w b t l) (o : Obj) : Bx (w.alloc o) b t l := h.of_heap (Below.heap_alloc _ _ _ h.lt)
theorem Bx.drew {w : World} {b : Nat} {t : TypeId} {l : List Value} (h : Bx w b t l) : Bx w.drew b t l := h
theorem Bx.below {w w' : World} {b n : Nat} {t : TypeId} {l : List Value} (h : Bx w b t l) (hB : Below n w w') (hb : b < n) : Bx w' b t l := h.of_heap (hB.block b hb)

/-- All blocks of w but those of M lie in w' as they lay. -/
structure Kep (M : Nat → Prop) (w w' : World) : Prop where
  os : w'.os = w.os
  tape : w'.tape = w.tape
  output : w'.output = w.output
  size : w.heap.size ≤ w'.heap.size
  same : ∀ k, k < w.heap.size → ¬ M k → w'.heap[k]? = w.heap[k]?
theorem Kep.refl (M : Nat → Prop) (w : World) : Kep M w w := ⟨rfl, rfl, rfl, Nat.le_refl _, fun _ _ _ => rfl⟩
theorem Kep.trans {M : Nat → Prop} {a b c : World} (h : Kep M a b) (k : Kep M b c) : Kep M a c :=
  ⟨k.os.trans h.os, k.tape.trans h.tape, k.output.trans h.output, Nat.le_trans h.size k.size, fun i hi hm => (k.same i (Nat.lt_of_lt_of_le hi h.size) hm).trans (h.same i hi hm)⟩
theorem Kep.mono {M M' : Nat → Prop} {a b : World} (h : Kep M a b) (hm : ∀ k, k < a.heap.size → M k → M' k) : Kep M' a b := ⟨h.os, h.tape, h.output, h.size, fun i hi hn => h.same i hi fun x => hn (hm i hi x)⟩
theorem Kep.alloc {M : Nat → Prop} {a b : World} (h : Kep M a b) (o : Obj) : Kep M a (b.alloc o) :=
  h.trans ⟨rfl, rfl, rfl, by simp, fun k hk _ => Below.heap_alloc _ _ _ hk⟩
theorem Kep.drew {M : Nat → Prop} {a b : World} (h : Kep M a b) : Kep M a b.drew := ⟨h.os, h.tape, h.output, h.size, h.same⟩
theorem Kep.setCell {M : Nat → Prop} {a b : World} (h : Kep M a b) {p : Addr} (hp : a.heap.size ≤ p.block ∨ M p.block) (v : Value) : Kep M a (b.setCell p v) :=
  ⟨h.os, h.tape, h.output, by simp [World.setCell]; exact h.size, fun k hk hm => (Below.heap_setCell _ _ _ _ (fun e => by
    subst e
    rcases hp with hp | hp
    · omega
    · exact hm hp)).trans (h.same k hk hm)⟩
theorem Kep.below {M : Nat → Prop} {a b c : World} (h : Kep M a b) (k : Below b.heap.size b c) : Kep M a c :=
  h.trans ⟨k.os, k.tape, k.output, k.size, fun i hi _ => k.block i hi⟩
theorem Kep.of_below {M : Nat → Prop} {b c : World} (k : Below b.heap.size b c) : Kep M b c := (Kep.refl M b).below k
theorem Kep.to_below {M : Nat → Prop} {a b : World} {n : Nat} (h : Kep M a b) (hn : n ≤ a.heap.size) (hm : ∀ k, k < n → ¬ M k) : Below n a b := ⟨h.os, h.tape, h.output, h.size, fun k hk => h.same k (by omega) (hm k hk)⟩
theorem Kep.grown {M : Nat → Prop} {a b c : World} {row : Option Nat} (h : Kep M a b) (hg : b.grownBy c row) (hr : ∀ k, row = some k → a.heap.size ≤ k ∨ M k) : Kep M a c :=
  ⟨hg.os.trans h.os, hg.tape.trans h.tape, hg.output.trans h.output, Nat.le_trans h.size hg.size, fun k hk hm => (hg.block k (Nat.lt_of_lt_of_le hk h.size) (fun e => by
    rcases hr k e.symm with h1 | h1
    · omega
    · exact hm h1)).trans (h.same k hk hm)⟩
theorem Kep.sub {M N : Nat → Prop} {a b c : World} (h : Kep M a b) (k : Kep N b c) (hn : ∀ i, N i → a.heap.size ≤ i ∨ M i) : Kep M a c :=
  ⟨k.os.trans h.os, k.tape.trans h.tape, k.output.trans h.output, Nat.le_trans h.size k.size, fun i hi hm => (k.same i (Nat.lt_of_lt_of_le hi h.size) (fun x => by
    rcases hn i x with h1 | h1
    · omega
    · exact hm h1)).trans (h.same i hi hm)⟩
theorem Bx.kep {M : Nat → Prop} {w w' : World} {b : Nat} {t : TypeId} {l : List Value} (h : Bx w b t l) (hk : Kep M w w') (hm : ¬ M b) : Bx w' b t l := h.of_heap (hk.same b h.lt hm)
theorem cellA {w : World} {a : Addr} {v : Value} (o : Obj) (h : w.cell? a = some v) : (w.alloc o).cell? a = some v := (World.cell?_alloc_some w a o (by rw [h]; rfl)).trans h

end Go.Proofs.Ytfpdecjlfnambaa
