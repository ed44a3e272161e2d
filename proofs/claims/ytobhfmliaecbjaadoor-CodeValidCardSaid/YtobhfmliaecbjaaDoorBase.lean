/-
  The plain model of programs, and how they lie in the heap. No conditions: definitions and small lemmas for the walks.
-/
import Derived.Test.YtobhfmliaecbjaaDoorRows
import Derived.WalkKit
import Derived.WalkSpells
import Derived.WalkLawsBesides
import Derived.Deep.QuietTactic
import Derived.BigQuiet
import Derived.Handy
import Derived.Lib.Hide
namespace Go.Proofs.YtobhfmliaecbjaaDoor
open Go.RowKit

/-- an instruction -/
structure In where
  op : Int
  a : Int
  b : Int
  c : Int
  l : List Int

/-- a coroutine -/
structure Cr where
  re : Int
  ca : Int
  wo : Int
  ar : Int

/-- a program -/
structure Pg where
  fs : List (List In)
  cs : List Cr

/-- what A, B, C of an operation are, and its labels -/
structure Sh where
  f0 : Int
  f1 : Int
  f2 : Int
  lb : Int

def tab : List Sh := [⟨2, 3, 0, 0⟩, ⟨2, 5, 0, 0⟩, ⟨2, 1, 5, 0⟩, ⟨2, 1, 0, 0⟩, ⟨1, 1, 0, 0⟩, ⟨1, 1, 5, 0⟩, ⟨1, 1, 5, 0⟩, ⟨1, 0, 5, 0⟩, ⟨2, 1, 1, 1⟩, ⟨2, 1, 1, 1⟩, ⟨2, 1, 1, 1⟩, ⟨2, 1, 1, 0⟩, ⟨2, 1, 1, 0⟩, ⟨0, 0, 0, 1⟩, ⟨1, 0, 0, 1⟩,
  ⟨1, 0, 0, 2⟩, ⟨2, 0, 5, 0⟩, ⟨1, 0, 0, 0⟩, ⟨1, 0, 0, 0⟩, ⟨1, 4, 0, 0⟩, ⟨1, 0, 0, 0⟩, ⟨2, 1, 0, 0⟩, ⟨2, 6, 0, 0⟩, ⟨1, 0, 0, 1⟩, ⟨2, 1, 0, 1⟩, ⟨1, 0, 0, 0⟩, ⟨1, 7, 0, 0⟩, ⟨0, 0, 0, 0⟩, ⟨0, 0, 0, 0⟩, ⟨0, 0, 0, 0⟩]
def shp (op : Int) : Sh := if 0 ≤ op then tab.getD op.toNat ⟨0, 0, 0, 0⟩ else ⟨0, 0, 0, 0⟩
def known (op : Int) : Bool := decide (0 ≤ op) && decide (op < 30)

theorem shp_off {op : Int} (h : known op = false) : shp op = ⟨0, 0, 0, 0⟩ := by
  unfold shp
  split
  · have : tab.length ≤ op.toNat := by simp [known] at h; show 30 ≤ op.toNat; omega
    simp [List.getD, List.getElem?_eq_none this]
  · rfl

def i64 (z : Int) : Prop := -9223372036854775808 ≤ z ∧ z ≤ 9223372036854775807

/-- The table of operations lies where the program's text laid it. -/
def TabAt (w : World) : Prop := ∀ k s, tab[k]? = some s → w.cell? ⟨0, k * 4, none⟩ = some (.int .i64 s.f0) ∧ w.cell? ⟨0, k * 4 + 1, none⟩ = some (.int .i64 s.f1) ∧ w.cell? ⟨0, k * 4 + 2, none⟩ = some (.int .i64 s.f2) ∧ w.cell? ⟨0, k * 4 + 3, none⟩ = some (.int .i64 s.lb)

theorem TabAt.lt {w : World} (h : TabAt w) : 0 < w.heap.size := World.block_lt_of_cell? w _ (h 0 _ rfl).1
theorem TabAt.below {w w' : World} {B : Nat} (h : TabAt w) (hb : Below B w w') (hB : 0 < B) : TabAt w' := fun k s hs =>
  ⟨(hb.cell hB).trans (h k s hs).1, (hb.cell hB).trans (h k s hs).2.1, (hb.cell hB).trans (h k s hs).2.2.1, (hb.cell hB).trans (h k s hs).2.2.2⟩

def Sh.val (s : Sh) : Value := .agg #[.int .i64 s.f0, .int .i64 s.f1, .int .i64 s.f2, .int .i64 s.lb]

theorem known_any (op : Int) (w : World) : Calls Tryd.prog 28 #[.int .i64 op] w fun e w' => e = .returned (.bool (known op)) ∧ w' = w := by
  by_cases h0 : 0 ≤ op
  · have t0 : decide (op ≥ 0) = true := by simpa using h0
    by_cases h1 : op < 30
    · have t1 : decide (op < 30) = true := by simpa using h1
      go_enter Tryd.func28, Tryd.ntmps28
      go_wp2
      go_ret
      exact ⟨by simp [known, h0, h1], rfl⟩
    · have t1 : decide (op < 30) = false := by simpa using h1
      go_enter Tryd.func28, Tryd.ntmps28
      go_wp2
      go_ret
      exact ⟨by simp [known, h0, h1], rfl⟩
  · have t0 : decide (op ≥ 0) = false := by simpa using h0
    go_enter Tryd.func28, Tryd.ntmps28
    go_wp2
    go_ret
    exact ⟨by simp [known]; omega, rfl⟩

theorem alloc_cell (w : World) (c : Array Value) (t : TypeId) (j : Nat) (v : Value) (hv : c[j]? = some v) : (w.alloc (.cells c t)).cell? ⟨w.heap.size, j, none⟩ = some v := by
  simp only [World.cell?]
  rw [heap_alloc_new]
  simpa using hv
theorem box_cell {w w1 : World} {c : Array Value} {t : TypeId} (hb : Below (w.alloc (.cells c t)).heap.size (w.alloc (.cells c t)) w1) (j : Nat) (v : Value) (hv : c[j]? = some v) : w1.cell? ⟨w.heap.size, j, none⟩ = some v :=
  (hb.cell (p := ⟨w.heap.size, j, none⟩) (by simp)).trans (alloc_cell w c t j v hv)
theorem box_below {w w1 : World} {o : Obj} (hb : Below (w.alloc o).heap.size (w.alloc o) w1) : Below w.heap.size w w1 :=
  ((Below.refl _ _).alloc (Nat.le_refl _) o).trans (hb.mono (by simp))

theorem shapeOf_any (op : Int) (w : World) (ht : TabAt w) : Calls Tryd.prog 26 #[.int .i64 op] w fun e w' => e = .returned (shp op).val ∧ Below w.heap.size w w' := by
  have h0lt := ht.lt
  cases hk : known op with
  | false =>
    have HK := Lib.hid hk
    clear hk ht
    go_enter Tryd.func26, Tryd.ntmps26
    go_wp2_with fail
    refine (known_any op _).mono ?_
    rintro e w1 ⟨rfl, rfl⟩
    rw [HK.out]
    go_wp2
    go_returns
    exact ⟨by rw [shp_off HK.out]; rfl, (Below.refl _ _).alloc (Nat.le_refl _) _⟩
  | true =>
    have h01 : 0 ≤ op ∧ op < 30 := by simpa [known] using hk
    have HK := Lib.hid hk
    obtain ⟨k, rfl⟩ : ∃ k : Nat, op = k := ⟨op.toNat, by omega⟩
    have hk30 : k < 30 := by omega
    obtain ⟨s, hs⟩ : ∃ s, tab[k]? = some s := ⟨_, List.getElem?_eq_getElem (show k < tab.length from hk30)⟩
    have HS := Lib.hid hs
    obtain ⟨g0, g1, g2, g3⟩ := ht k s hs
    have hl : ∀ (o : Obj) (p : Addr), p.block < w.heap.size → (w.alloc o).cell? p = w.cell? p := fun o p hp => ((Below.refl _ _).alloc (Nat.le_refl _) o).cell hp
    have e0 := fun o => (hl o ⟨0, k * 4, none⟩ h0lt).trans g0
    have e1 := fun o => (hl o ⟨0, k * 4 + 1, none⟩ h0lt).trans g1
    have e2 := fun o => (hl o ⟨0, k * 4 + 2, none⟩ h0lt).trans g2
    have e3 := fun o => (hl o ⟨0, k * 4 + 3, none⟩ h0lt).trans g3
    clear hk ht hs h01 hl g0 g1 g2 g3
    go_enter Tryd.func26, Tryd.ntmps26
    go_wp2_with fail
    refine (known_any k _).mono ?_
    rintro e w1 ⟨rfl, rfl⟩
    rw [HK.out]
    go_wp2
    go_returns
    refine ⟨?_, ?_⟩
    · have : shp k = s := by simp [shp, List.getD, HS.out]
      rw [this]; rfl
    · exact (Below.refl _ _).alloc (Nat.le_refl _) _
end Go.Proofs.YtobhfmliaecbjaaDoor
