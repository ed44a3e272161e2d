/-
  Several texts of the proof in one: KAppB, PRow, PPlace, PRowF, PList. No conditions of their own: each lemma states its own.
-/
import Derived.ArgAppend
import Derived.WalkKit
import Derived.Test.YtghkbihgdabamaaGreatDoorKPSimR
import Derived.Test.YtghkbihgdabamaaGreatDoorKPRepR
import Derived.Deep.AppendLies
import Derived.Deep.RegionLaw
namespace Go.Proofs.YtghkbihgdabamaaGreatDoor
open Go.RowKit

end Go.Proofs.YtghkbihgdabamaaGreatDoor

namespace Go.Proofs.YtghkbihgdabamaaGreatDoor
open Go.RowKit

/-- what a call leaves alone: all blocks that were there but for one, and perhaps another one -/
structure Ko (b : Nat) (o : Option Nat) (w w' : World) : Prop where
  os : w'.os = w.os
  tape : w'.tape = w.tape
  output : w'.output = w.output
  size : w.heap.size ≤ w'.heap.size
  block : ∀ x, x < w.heap.size → x ≠ b → o ≠ some x → w'.heap[x]? = w.heap[x]?
theorem Ko.of {b : Nat} {o : Option Nat} {w w' : World} (h : Kb b w w') : Ko b o w w' := ⟨h.os, h.tape, h.output, h.size, fun x hx hn _ => h.block x hx hn⟩
theorem Ko.refl (b : Nat) (o : Option Nat) (w : World) : Ko b o w w := .of (Kb.refl b w)
theorem Ko.trans {b : Nat} {o : Option Nat} {w w1 w2 : World} (h : Ko b o w w1) (h' : Ko b o w1 w2) : Ko b o w w2 :=
  ⟨h'.os.trans h.os, h'.tape.trans h.tape, h'.output.trans h.output, Nat.le_trans h.size h'.size, fun x hx hn ho => (h'.block x (Nat.lt_of_lt_of_le hx h.size) hn ho).trans (h.block x hx hn ho)⟩
/-- blocks from a number on may have grown -/
theorem Ko.grown {b : Nat} {o : Option Nat} {w w1 w2 : World} {ob : Option Nat} (h : Ko b o w w1) (hg : w1.grownBy w2 ob) (ho : ∀ x, ob = some x → w.heap.size ≤ x) : Ko b o w w2 :=
  ⟨hg.os.trans h.os, hg.tape.trans h.tape, hg.output.trans h.output, Nat.le_trans h.size hg.size, fun x hx hn hno => (hg.block x (Nat.lt_of_lt_of_le hx h.size) fun e => by have := ho x e.symm; omega).trans (h.block x hx hn hno)⟩
end Go.Proofs.YtghkbihgdabamaaGreatDoor

namespace Go.Proofs.YtghkbihgdabamaaGreatDoor
open Go.RowKit

end Go.Proofs.YtghkbihgdabamaaGreatDoor

namespace Go.Proofs.YtghkbihgdabamaaGreatDoor
open Go.RowKit
end Go.Proofs.YtghkbihgdabamaaGreatDoor

namespace Go.Proofs.YtghkbihgdabamaaGreatDoor
open Go.RowKit

theorem Ko.box {b k : Nat} {o : Option Nat} {w w1 w2 : World} (h : Ko b o w w1) (hk : w.heap.size ≤ k) (hb : Below k w1 w2) (hn : ∀ x, x ≠ k → w2.heap[x]? = w1.heap[x]?) : Ko b o w w2 :=
  ⟨hb.os.trans h.os, hb.tape.trans h.tape, hb.output.trans h.output, Nat.le_trans h.size hb.size, fun x hx h1 h2 => (hn x (by omega)).trans (h.block x hx h1 h2)⟩
end Go.Proofs.YtghkbihgdabamaaGreatDoor
