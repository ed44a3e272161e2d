/-
  The plain model of package mem's memory, and how it lies in the heap. No conditions: definitions and small lemmas for the walks.
-/
import Derived.Test.YtbcockaleegicaaRows
import Derived.WalkKit
import Derived.WalkSpells
import Derived.WalkLawsBesides
import Derived.Deep.QuietTactic
import Derived.BigQuiet
import Derived.Handy
import Derived.Maps.OwnSet
import Derived.Lib.Hide
namespace Go.Proofs.Ytbcockaleegicaa
open Go.RowKit

/-- a word that may be stored -/
structure Wd where
  p : Bool
  a : Int
  n : Int
  deriving DecidableEq

/-- a word's room: none where nothing is stored -/
abbrev Cl := Option Wd

def Wd.val (x : Wd) : Value := .agg #[.bool x.p, .int .i64 x.a, .int .i64 x.n]
def cv : Cl → List Value
  | none => [.bool false, .int .i64 0, .int .i64 0, .bool false]
  | some x => [.bool x.p, .int .i64 x.a, .int .i64 x.n, .bool true]
def rowv (l : List Cl) : List Value := l.flatMap cv

theorem cv_length (c : Cl) : (cv c).length = 4 := by cases c <;> rfl
theorem rowv_length (l : List Cl) : (rowv l).length = 4 * l.length := by
  induction l with
  | nil => rfl
  | cons c l ih => simp only [rowv, List.flatMap_cons, List.length_append, cv_length, List.length_cons] at ih ⊢; omega

theorem rowv_append (l m : List Cl) : rowv (l ++ m) = rowv l ++ rowv m := by simp [rowv]

theorem rowv_get (l : List Cl) : ∀ (i j : Nat) (c : Cl), l[i]? = some c → j < 4 → (rowv l)[4 * i + j]? = (cv c)[j]? := by
  induction l with
  | nil => intro i j c h; simp at h
  | cons x l ih =>
    intro i j c h hj
    have e : rowv (x :: l) = cv x ++ rowv l := rfl
    cases i with
    | zero =>
      simp at h
      subst h
      rw [e, List.getElem?_append_left (by rw [cv_length]; omega)]
      simp
    | succ i =>
      simp at h
      rw [e, List.getElem?_append_right (by rw [cv_length]; omega), cv_length]
      have := ih i j c h hj
      rw [show 4 * (i + 1) + j - 4 = 4 * i + j from by omega]
      exact this

/-- what there is: its room; of each allocation, in order, what it holds (none: freed) -/
structure MS where
  room : Int
  blocks : List (Option (List Cl))

def szO : Option (List Cl) → Nat
  | none => 0
  | some l => l.length
def MS.words (S : MS) : Nat := (S.blocks.map szO).sum
def MS.live (S : MS) : Nat := (S.blocks.filter Option.isSome).length
def MS.at (S : MS) (k : Nat) : Option (List Cl) := (S.blocks[k]?).getD none

def key (k : Nat) : Lit := .int .i64 ((k : Int) + 1)

/-- how a slice of words reads as an element of the map: by its block and its length -/
def locd (b n : Nat) : DataW Unit := .agg [.lit (.int .i64 b), .lit (.int .i64 n)]
def locElem : Value → Option (DataW Unit × List MemPlace)
  | .slice none 0 0 => some (.nil, [])
  | .slice (some ⟨b, 0, none⟩) n c => if c = n then some (locd b n, []) else none
  | _ => none

theorem locElem_mk (b n : Nat) : locElem (.slice (some ⟨b, 0, none⟩) n n) = some (locd b n, []) := by simp [locElem]
theorem locElem_inv {v : Value} {b n : Nat} {ps : List MemPlace} (h : locElem v = some (locd b n, ps)) : v = .slice (some ⟨b, 0, none⟩) n n := by
  unfold locElem at h
  split at h
  · simp [locd] at h
  · split at h
    · rename_i hc
      subst hc
      simp [locd] at h
      obtain ⟨⟨h1, h2⟩, _⟩ := h
      rw [Int.ofNat_inj.1 h1, Int.ofNat_inj.1 h2]
    · cases h
  · cases h

theorem keyLaw : Maps.Keyed Try.prog 3 := Maps.int_keyed Try.underlying3
theorem key_ne {j k : Nat} (h : j ≠ k) : key j ≠ key k := by
  intro e
  simp only [key, Lit.int.injEq, true_and] at e
  omega
theorem keyOf_key {k : Nat} (h : k < 1000000) : keyOf Try.prog 3 (.int .i64 ((k : Int) + 1)) = some (key k) :=
  Maps.keyOf_int_mk Try.underlying3 (WalkArith.wf_i64 (by omega))
theorem key_lit (k : Nat) : WideAt.IsKeyLit (key k) := trivial
theorem zero64 (w : World) : (zeroValue 64).run Try.prog w = .ok (.slice none 0 0) w := by kernel_rfl

def memObj (room words made : Int) (lm : Option Nat) : Obj := .cells #[.int .i64 room, .int .i64 words, .int .i64 made, .map lm] 63

/-- the map from numbers to what they hold: D reads as S tells -/
structure MapIs (S : MS) (loc : Nat → Nat) (D : DataW Unit) : Prop where
  size : Maps.size D = S.live
  some : ∀ k l, S.at k = some l → Maps.has D (key k) = true ∧ ∀ z, D.atKey (key k) z = locd (loc k) l.length
  none : ∀ k, S.at k = none → Maps.has D (key k) = false

structure RepAt (w : World) (mb : Nat) (lm : Option Nat) (loc : Nat → Nat) (S : MS) : Prop where
  obj : w.heap[mb]? = some (memObj S.room S.words S.blocks.length lm)
  room0 : 0 ≤ S.room
  room1 : S.room ≤ 1048576
  words : (S.words : Int) ≤ S.room
  made : S.blocks.length < 1000
  nomap : lm = .none → S.blocks = []
  map : ∀ lb, lm = .some lb → ∃ D, w.ownsMap Try.prog 3 locElem lb S.blocks.length D ∧ MapIs S loc D
  blk : ∀ k l, S.at k = .some l → w.heap[loc k]? = .some (.cells (rowv l).toArray 69)
  inj : ∀ j k l l', S.at j = .some l → S.at k = .some l' → loc j = loc k → j = k

/-- the blocks that it is made of -/
def Owned (mb : Nat) (lm : Option Nat) (loc : Nat → Nat) (S : MS) (b : Nat) : Prop := b = mb ∨ lm = some b ∨ ∃ k l, S.at k = some l ∧ b = loc k

theorem RepAt.keep {w w' : World} {mb : Nat} {lm : Option Nat} {loc : Nat → Nat} {S : MS} (h : RepAt w mb lm loc S) (hk : ∀ b, Owned mb lm loc S b → w'.heap[b]? = w.heap[b]?) : RepAt w' mb lm loc S := by
  refine ⟨(hk _ (.inl rfl)).trans h.obj, h.room0, h.room1, h.words, h.made, h.nomap, ?_, ?_, h.inj⟩
  · intro lb hlb
    obtain ⟨D, ⟨es, clock, hb, r⟩, hD⟩ := h.map lb hlb
    exact ⟨D, ⟨es, clock, (hk _ (.inr (.inl hlb))).trans hb, r⟩, hD⟩
  · intro k l hl
    exact (hk _ (.inr (.inr ⟨k, l, hl, rfl⟩))).trans (h.blk k l hl)

theorem RepAt.lt {w : World} {mb : Nat} {lm : Option Nat} {loc : Nat → Nat} {S : MS} (h : RepAt w mb lm loc S) (b : Nat) (ho : Owned mb lm loc S b) : b < w.heap.size := by
  rcases ho with rfl | hl | ⟨k, l, hl, rfl⟩
  · exact (Array.getElem?_eq_some_iff.1 h.obj).1
  · obtain ⟨D, hD, _⟩ := h.map b hl
    exact hD.lt
  · exact (Array.getElem?_eq_some_iff.1 (h.blk k l hl)).1

/-- Only blocks of O, and new ones, are other than they were. -/
structure Kept (O : Nat → Prop) (w w' : World) : Prop where
  os : w'.os = w.os
  tape : w'.tape = w.tape
  output : w'.output = w.output
  size : w.heap.size ≤ w'.heap.size
  block : ∀ b, b < w.heap.size → ¬ O b → w'.heap[b]? = w.heap[b]?

theorem Kept.of_below {O : Nat → Prop} {w w' : World} (h : Below w.heap.size w w') : Kept O w w' := ⟨h.os, h.tape, h.output, h.size, fun b hb _ => h.block b hb⟩
theorem Kept.refl (O : Nat → Prop) (w : World) : Kept O w w := ⟨rfl, rfl, rfl, Nat.le_refl _, fun _ _ _ => rfl⟩

/-- A memory lies at mb, within the blocks O. -/
def Rep (w : World) (mb : Nat) (O : Nat → Prop) (S : MS) : Prop := ∃ lm loc, RepAt w mb lm loc S ∧ ∀ b, Owned mb lm loc S b → O b

theorem Rep.keep {w w' : World} {mb : Nat} {O : Nat → Prop} {S : MS} (h : Rep w mb O S) (hk : ∀ b, b < w.heap.size → O b → w'.heap[b]? = w.heap[b]?) : Rep w' mb O S := by
  obtain ⟨lm, loc, h, ho⟩ := h
  exact ⟨lm, loc, h.keep fun b hb => hk b (h.lt b hb) (ho b hb), ho⟩
theorem Rep.below {w w' : World} {mb : Nat} {O : Nat → Prop} {S : MS} (h : Rep w mb O S) (hb : Below w.heap.size w w') : Rep w' mb O S := h.keep fun b hl _ => hb.block b hl

end Go.Proofs.Ytbcockaleegicaa
