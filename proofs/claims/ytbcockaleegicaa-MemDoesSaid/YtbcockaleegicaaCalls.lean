/-
  The contracts of mem's calls in the form in which the statements use them. Conditions: the memory lies in the heap.
-/
import Derived.Test.YtbcockaleegicaaAllocN
import Derived.Test.YtbcockaleegicaaStore
namespace Go.Proofs.Ytbcockaleegicaa
open Go.RowKit

set_option maxHeartbeats 400000 in
theorem off_any (b : Bool) (a n k : Int) (w : World) (hs : -9223372036854775808 ≤ n + k ∧ n + k ≤ 9223372036854775807) (hb : b = true) :
    Calls Try.prog 32 #[.agg #[.bool b, .int .i64 a, .int .i64 n], .int .i64 k] w fun e w' => e = .returned (.tuple #[.agg #[.bool true, .int .i64 a, .int .i64 (n + k)], .int .i64 0]) ∧ Below w.heap.size w w' := by
  subst hb
  go_enter Try.func32, Try.ntmps32
  go_wp2
  go_returns
  exact ⟨rfl, by go_grown⟩

set_option maxHeartbeats 400000 in
theorem new_run (k : Int) (w : World) :
    Calls Try.prog 13 #[.int .i64 k] w fun e w' => e = .returned (.pointer (some ⟨w.heap.size, 0, none⟩)) ∧ w' = w.alloc (memObj (min (max k 0) 1048576) 0 0 none) := by
  go_enter Try.func13, Try.ntmps13
  go_wp2
  all_goals go_ret
  · rw [show min (max k 0) 1048576 = 0 by omega]; exact ⟨rfl, rfl⟩
  · rw [show min (max k 0) 1048576 = 1048576 by omega]; exact ⟨rfl, rfl⟩
  · rw [show min (max k 0) 1048576 = k by omega]; exact ⟨rfl, rfl⟩

theorem new_any (k r : Int) (w : World) (hr : r = min (max k 0) 1048576) :
    Calls Try.prog 13 #[.int .i64 k] w fun e w' => e = .returned (.pointer (some ⟨w.heap.size, 0, none⟩)) ∧ RepAt w' w.heap.size none (fun _ => 0) ⟨r, []⟩ ∧ Below w.heap.size w w' ∧ w.heap.size < w'.heap.size := by
  refine (new_run k w).mono ?_
  rintro e w' ⟨rfl, rfl⟩
  rw [← hr]
  have hat : ∀ k, MS.at ⟨r, []⟩ k = none := fun k => rfl
  refine ⟨rfl, ⟨heap_alloc_new w _, by show 0 ≤ r; omega, by show r ≤ 1048576; omega, by show (0 : Int) ≤ r; omega, by simp, fun _ => rfl, (by intro lb h; cases h), ?_, ?_⟩, (Below.refl _ _).alloc (Nat.le_refl _) _, by simp⟩
  · intro k l h; rw [hat] at h; cases h
  · intro j k l l' h; rw [hat] at h; cases h

section
variable {w : World} {mb : Nat} {lm : Option Nat} {loc : Nat → Nat} {S : MS}

theorem alloc_any (R : RepAt w mb lm loc S) (n A : Int) (h0 : 0 ≤ n) (hn : n ≤ S.room - S.words) (hmade : S.blocks.length + 1 < 1000) (hA : A = (S.blocks.length : Int) + 1) :
    Calls Try.prog 15 #[.pointer (some ⟨mb, 0, none⟩), .int .i64 n] w fun e w' => e = .returned (.tuple #[.agg #[.bool true, .int .i64 A, .int .i64 0], .int .i64 0]) ∧ Turned w w' mb lm loc S (S.push n.toNat) := by
  obtain ⟨N, rfl⟩ : ∃ N : Nat, n = N := ⟨n.toNat, by omega⟩
  subst hA
  cases lm with
  | none => exact alloc_none R N hn hmade
  | some lb => exact alloc_some R N hn hmade

theorem load_any (R : RepAt w mb lm loc S) (b : Bool) (a n : Int) (x : Wd) (er : Int) (h : loadR S b a n = (x, er)) :
    Calls Try.prog 19 #[.pointer (some ⟨mb, 0, none⟩), .agg #[.bool b, .int .i64 a, .int .i64 n]] w fun e w' =>
      e = .returned (.tuple #[.agg #[.bool x.p, .int .i64 x.a, .int .i64 x.n], .int .i64 er]) ∧ Below w.heap.size w w' := by
  unfold loadR at h
  by_cases he : storedE S b a n 1 = 0
  · rw [if_neg (by simp [he])] at h
    obtain ⟨k, N, l, rfl, rfl, rfl, hl, hN, hs⟩ := storedE_zero he (by omega)
    rw [show ((k : Int) + 1 - 1).toNat = k by omega, hl] at h
    have hd := scanE_drop l N 1 0 (by omega)
    simp only [Nat.add_zero, Nat.sub_zero] at hd
    rw [show (1 : Int).toNat = 1 from rfl, hd] at hs
    cases hx : l[N]? with
    | none => rw [hx] at hs; simp at hs
    | some c =>
      cases c with
      | none => rw [hx] at hs; simp at hs
      | some y =>
        simp only [Int.toNat_natCast, hx, Prod.mk.injEq] at h
        obtain ⟨rfl, rfl⟩ := h
        exact load_ok R k l hl N y hx
  · rw [if_pos he] at h
    simp only [Prod.mk.injEq] at h
    obtain ⟨rfl, rfl⟩ := h
    exact load_fail R b a n _ rfl he

theorem store_any (R : RepAt w mb lm loc S) (b : Bool) (a n : Int) (p : Bool) (xa xn : Int) (k N : Nat) (l : List Cl) (hb : b = true) (ha : a = (k : Int) + 1) (hn : n = N) (hl : S.at k = some l) (hN : N < l.length) :
    Calls Try.prog 21 #[.pointer (some ⟨mb, 0, none⟩), .agg #[.bool b, .int .i64 a, .int .i64 n], .agg #[.bool p, .int .i64 xa, .int .i64 xn]] w fun e w' =>
      e = .returned (.int .i64 0) ∧ Turned w w' mb lm loc S (S.setb k (some (l.set N (some ⟨p, xa, xn⟩)))) := by
  subst hb ha hn
  exact store_ok R k l hl N ⟨p, xa, xn⟩ hN
end

/-- a local variable of type Word lies in block b and holds p, a, n -/
def Var (w : World) (b : Nat) (p : Bool) (a n : Int) : Prop := w.heap[b]? = some (.cells #[.bool p, .int .i64 a, .int .i64 n] 30)
theorem Var.mk (w : World) (p : Bool) (a n : Int) : Var (w.alloc (.cells #[.bool p, .int .i64 a, .int .i64 n] 30)) w.heap.size p a n := heap_alloc_new w _
theorem Var.lt {w : World} {b : Nat} {p : Bool} {a n : Int} (h : Var w b p a n) : b < w.heap.size := (Array.getElem?_eq_some_iff.1 h).1
theorem Var.below {w w' : World} {b : Nat} {p : Bool} {a n : Int} (h : Var w b p a n) (hb : Below w.heap.size w w') : Var w' b p a n := (hb.block b h.lt).trans h
theorem Var.alloc {w : World} {b : Nat} {p : Bool} {a n : Int} (h : Var w b p a n) (o : Obj) : Var (w.alloc o) b p a n := h.below ((Below.refl _ _).alloc (Nat.le_refl _) _)
theorem Var.kept {w w' : World} {b : Nat} {p : Bool} {a n : Int} {O : Nat → Prop} (h : Var w b p a n) (hk : Kept O w w') (ho : ¬ O b) : Var w' b p a n := (hk.block b h.lt ho).trans h
theorem Var.cells {w : World} {b : Nat} {p : Bool} {a n : Int} (h : Var w b p a n) : w.cell? ⟨b, 0, none⟩ = some (.bool p) ∧ w.cell? ⟨b, 1, none⟩ = some (.int .i64 a) ∧ w.cell? ⟨b, 2, none⟩ = some (.int .i64 n) := by
  unfold Var at h
  refine ⟨?_, ?_, ?_⟩ <;> simp [World.cell?, h]

/-- block b is none of the memory's -/
def Free (mb : Nat) (lm : Option Nat) (loc : Nat → Nat) (S : MS) (b : Nat) : Prop := ¬ Owned mb lm loc S b
theorem RepAt.free {w : World} {mb : Nat} {lm : Option Nat} {loc : Nat → Nat} {S : MS} (R : RepAt w mb lm loc S) : Free mb lm loc S w.heap.size := fun h => by have := R.lt _ h; omega
theorem Free.turned {w : World} {mb : Nat} {lm lm' : Option Nat} {loc loc' : Nat → Nat} {S S' : MS} {b : Nat} (h : Free mb lm loc S b) (hO : ∀ b, Owned mb lm' loc' S' b → Owned mb lm loc S b ∨ w.heap.size ≤ b) (hb : b < w.heap.size) : Free mb lm' loc' S' b := fun h' => by
  rcases hO b h' with h1 | h1
  · exact h h1
  · omega
theorem Kept.below {B : Nat} {O : Nat → Prop} {a w w' : World} (h : Below B a w) (hk : Kept O w w') (hB : B ≤ w.heap.size) (ho : ∀ b, O b → B ≤ b) : Below B a w' :=
  h.trans ⟨hk.os, hk.tape, hk.output, hk.size, fun b hb => hk.block b (by omega) fun h => by have := ho b h; omega⟩

/-- a memory that the call itself made: it lies from block B on; below B nothing has turned since w0 -/
structure St (B : Nat) (w0 w : World) (mb : Nat) (lm : Option Nat) (loc : Nat → Nat) (S : MS) : Prop where
  rep : RepAt w mb lm loc S
  own : ∀ b, Owned mb lm loc S b → B ≤ b
  below : Below B w0 w
  le : B ≤ w.heap.size

theorem St.alloc {B : Nat} {w0 w : World} {mb : Nat} {lm : Option Nat} {loc : Nat → Nat} {S : MS} (h : St B w0 w mb lm loc S) (o : Obj) : St B w0 (w.alloc o) mb lm loc S :=
  ⟨h.rep.alloc o, h.own, h.below.alloc h.le o, by have := h.le; simp; omega⟩
theorem St.next {B : Nat} {w0 w w' : World} {mb : Nat} {lm : Option Nat} {loc : Nat → Nat} {S : MS} (h : St B w0 w mb lm loc S) (hb : Below w.heap.size w w') : St B w0 w' mb lm loc S :=
  ⟨h.rep.below hb, h.own, h.below.trans (hb.mono h.le), Nat.le_trans h.le hb.size⟩
theorem St.turned {B : Nat} {w0 w w' : World} {mb : Nat} {lm : Option Nat} {loc : Nat → Nat} {S S' : MS} (h : St B w0 w mb lm loc S) (ht : Turned w w' mb lm loc S S') :
    ∃ lm' loc', St B w0 w' mb lm' loc' S' ∧ (∀ b, b < w.heap.size → Free mb lm loc S b → Free mb lm' loc' S' b) ∧ Kept (Owned mb lm loc S) w w' := by
  obtain ⟨lm', loc', R, hO, hK⟩ := ht
  have hle := h.le
  have hsz := hK.size
  refine ⟨lm', loc', ⟨R, fun b hb => ?_, hK.below h.below hle h.own, by omega⟩, fun b hb hf => hf.turned hO hb, hK⟩
  rcases hO b hb with h1 | h1
  · exact h.own b h1
  · omega
theorem St.made {w0 w w' : World} {mb : Nat} {r : Int} (hb0 : Below w0.heap.size w0 w) (hle : w0.heap.size ≤ w.heap.size) (R : RepAt w' mb none (fun _ => 0) ⟨r, []⟩) (hb : Below w.heap.size w w') (hmb : mb = w.heap.size) :
    St w0.heap.size w0 w' mb none (fun _ => 0) ⟨r, []⟩ := by
  refine ⟨R, ?_, hb0.trans (hb.mono hle), Nat.le_trans hle hb.size⟩
  rintro b (rfl | h | ⟨k, l, h, _⟩)
  · omega
  · cases h
  · cases h

/-- a local variable of type Word, in a block that is none of the memory's -/
structure Loc (w : World) (mb : Nat) (lm : Option Nat) (loc : Nat → Nat) (S : MS) (b : Nat) (p : Bool) (a n : Int) : Prop where
  var : Var w b p a n
  free : Free mb lm loc S b
section
variable {w w' : World} {mb : Nat} {lm lm' : Option Nat} {loc loc' : Nat → Nat} {S S' : MS} {b : Nat} {p : Bool} {a n : Int}
theorem Loc.mk' {B : Nat} {w0 : World} (T : St B w0 w mb lm loc S) (p : Bool) (a n : Int) : Loc (w.alloc (.cells #[.bool p, .int .i64 a, .int .i64 n] 30)) mb lm loc S w.heap.size p a n := ⟨Var.mk w p a n, T.rep.free⟩
theorem Loc.next (h : Loc w mb lm loc S b p a n) (hb : Below w.heap.size w w') : Loc w' mb lm loc S b p a n := ⟨h.var.below hb, h.free⟩
theorem Loc.alloc (h : Loc w mb lm loc S b p a n) (o : Obj) : Loc (w.alloc o) mb lm loc S b p a n := ⟨h.var.alloc o, h.free⟩
theorem Loc.turned (h : Loc w mb lm loc S b p a n) (hF : ∀ b, b < w.heap.size → Free mb lm loc S b → Free mb lm' loc' S' b) (hK : Kept (Owned mb lm loc S) w w') : Loc w' mb lm' loc' S' b p a n :=
  ⟨h.var.kept hK h.free, hF b h.var.lt h.free⟩
/-- what lay there before the memory was made -/
theorem Loc.old {B : Nat} {w0 : World} (T : St B w0 w' mb lm loc S) (hv : Var w' b p a n) (hb : b < B) : Loc w' mb lm loc S b p a n := ⟨hv, fun h => by have := T.own b h; omega⟩
theorem Loc.cells (h : Loc w mb lm loc S b p a n) : w.cell? ⟨b, 0, none⟩ = some (.bool p) ∧ w.cell? ⟨b, 1, none⟩ = some (.int .i64 a) ∧ w.cell? ⟨b, 2, none⟩ = some (.int .i64 n) ∧ b < w.heap.size :=
  ⟨h.var.cells.1, h.var.cells.2.1, h.var.cells.2.2, h.var.lt⟩
end
/-- a memory made by New, by what lay below it -/
theorem St.new {B : Nat} {w0 w w' : World} {r : Int} (hb0 : Below B w0 w) (hB : B ≤ w.heap.size) (R : RepAt w' w.heap.size none (fun _ => 0) ⟨r, []⟩) (hb : Below w.heap.size w w') :
    St B w0 w' w.heap.size none (fun _ => 0) ⟨r, []⟩ ∧ ∀ b, b < w.heap.size → Free w.heap.size none (fun _ => 0) ⟨r, []⟩ b := by
  have ho : ∀ b, Owned w.heap.size none (fun _ => 0) ⟨r, []⟩ b → b = w.heap.size := by
    rintro b (rfl | h | ⟨k, l, h, _⟩)
    · rfl
    · cases h
    · cases h
  exact ⟨⟨R, fun b h => by rw [ho b h]; exact hB, hb0.trans (hb.mono hB), Nat.le_trans hB hb.size⟩, fun b hlt h => by have := ho b h; omega⟩
end Go.Proofs.Ytbcockaleegicaa
