/-
  Graph: bodies as graph sees them (how many steps a block has, where it goes), and how they lie. No conditions: definitions and laws.
-/
import Derived.Test.YtfpdecjlfnambaaGRange
namespace Go.Proofs.Ytfpdecjlfnambaa
open Go Go.RowKit

/-- A body as graph sees it: of each block how many steps it has, and its end's To. -/
abbrev Gb := List (Nat × List Int)
def isPl (n : Int) (L : Nat) : Bool := decide (0 ≤ n) && decide (n < L)
def tv (L : Nat) (l : List Int) : List Nat := l.filterMap fun t => if isPl t L then some t.toNat else none
def toR (g : Gb) (i : Nat) : List Int := (g.getD i (0, [])).2
def insR (g : Gb) (i : Nat) : Nat := (g.getD i (0, [])).1
def tos (g : Gb) (i : Nat) : List Nat := tv g.length (toR g i)

theorem tv_snoc (L : Nat) (l : List Int) (m : Nat) (h : m < l.length) : tv L (l.take (m + 1)) = tv L (l.take m) ++ (if isPl l[m] L then [l[m].toNat] else []) := by
  rw [List.take_add_one, List.getElem?_eq_getElem h]
  simp only [tv, List.filterMap_append, Option.toList]
  congr 1
  by_cases hp : isPl l[m] L = true
  · simp [hp]
  · simp [hp]
theorem tv_split (L : Nat) (l : List Int) (m : Nat) : tv L l = tv L (l.take m) ++ tv L (l.drop m) := by
  rw [tv, tv, tv, ← List.filterMap_append, List.take_append_drop]
theorem tv_lt {L : Nat} {l : List Int} {t : Nat} (h : t ∈ tv L l) : t < L := by
  obtain ⟨x, _, hx⟩ := List.mem_filterMap.1 h
  split at hx
  · rename_i hp
    simp [isPl] at hp
    cases hx
    omega
  · cases hx
theorem tv_at (L : Nat) (l : List Int) (m : Nat) (h : m < l.length) (hp : isPl (l[m]?.getD 0) L = true) : ∃ hk : (tv L (l.take m)).length < (tv L l).length, (tv L l)[(tv L (l.take m)).length] = (l[m]?.getD 0).toNat := by
  have e0 : l[m]?.getD 0 = l[m] := by rw [List.getElem?_eq_getElem h]; rfl
  rw [e0] at hp ⊢
  have e : tv L l = tv L (l.take m) ++ (l[m].toNat :: tv L (l.drop (m + 1))) := by
    rw [tv_split L l (m + 1), tv_snoc L l m h, if_pos hp]
    simp
  have hk : (tv L (l.take m)).length < (tv L l).length := by rw [e]; simp
  refine ⟨hk, ?_⟩
  have e2 : (tv L l)[(tv L (l.take m)).length]? = some l[m].toNat := by rw [e]; simp
  rw [List.getElem?_eq_getElem hk] at e2
  exact Option.some.inj e2
theorem tv_next (L : Nat) (l : List Int) (m : Nat) (h : m < l.length) : (tv L (l.take (m + 1))).length = if isPl (l[m]?.getD 0) L then (tv L (l.take m)).length + 1 else (tv L (l.take m)).length := by
  have e0 : l[m]?.getD 0 = l[m] := by rw [List.getElem?_eq_getElem h]; rfl
  rw [e0, tv_snoc L l m h]
  split <;> simp

/-- The slice value v holds the ints l, in a block below n0. -/
def IRow (n0 : Nat) (w : World) (v : Value) (l : List Int) : Prop :=
  ∃ oa cap, v = .slice oa l.length cap ∧ (0 < l.length → ∃ b off, oa = some ⟨b, off, none⟩ ∧ b < n0 ∧ ∀ j, j < l.length → w.cell? ⟨b, off + j, none⟩ = some (.int .i64 (l[j]?.getD 0)))
theorem IRow.below {n0 n : Nat} {w w' : World} {v : Value} {l : List Int} (h : IRow n0 w v l) (hB : Below n w w') (hn : n0 ≤ n) : IRow n0 w' v l := by
  obtain ⟨oa, cap, h1, h2⟩ := h
  refine ⟨oa, cap, h1, fun hl => ?_⟩
  obtain ⟨b, off, h3, h4, h5⟩ := h2 hl
  exact ⟨b, off, h3, h4, fun j hj => (hB.cell (p := ⟨b, off + j, none⟩) (by show b < n; omega)).trans (h5 j hj)⟩
theorem IRow.mono {n0 n : Nat} {w : World} {v : Value} {l : List Int} (h : IRow n0 w v l) (hn : n0 ≤ n) : IRow n w v l := by
  obtain ⟨oa, cap, h1, h2⟩ := h
  exact ⟨oa, cap, h1, fun hl => let ⟨b, off, h3, h4, h5⟩ := h2 hl; ⟨b, off, h3, by omega, h5⟩⟩

/-- The slice of blocks lies as g says. -/
def Blks (n0 : Nat) (w : World) (oa : Option Addr) (g : Gb) : Prop :=
  0 < g.length → ∃ b off, oa = some ⟨b, off, none⟩ ∧ b < n0 ∧ ∀ i, i < g.length → (∃ ia ic, w.cell? ⟨b, off + i * 17, none⟩ = some (.slice ia (insR g i) ic)) ∧ (∃ vt, w.cell? ⟨b, off + i * 17 + 16, none⟩ = some vt ∧ IRow n0 w vt (toR g i))
theorem Blks.below {n0 n : Nat} {w w' : World} {oa : Option Addr} {g : Gb} (h : Blks n0 w oa g) (hB : Below n w w') (hn : n0 ≤ n) : Blks n0 w' oa g := fun hl => by
  obtain ⟨b, off, h3, h4, h5⟩ := h hl
  refine ⟨b, off, h3, h4, fun i hi => ?_⟩
  obtain ⟨⟨ia, ic, h6⟩, vt, h7, h8⟩ := h5 i hi
  exact ⟨⟨ia, ic, (hB.cell (p := ⟨b, off + i * 17, none⟩) (by show b < n; omega)).trans h6⟩, vt, (hB.cell (p := ⟨b, off + i * 17 + 16, none⟩) (by show b < n; omega)).trans h7, h8.below hB hn⟩

/-- A body's value: what is not looked at, and its blocks. -/
structure Bv where
  nm : Value
  pa : Value
  lo : Value
  oa : Option Addr
  cap : Nat
  g : Gb
abbrev Bv.cs (B : Bv) : List Value := [B.nm, B.pa, B.lo, .slice B.oa B.g.length B.cap]
abbrev Bv.v (B : Bv) : Value := .agg B.cs.toArray
def Bv.At (B : Bv) (n0 : Nat) (w : World) : Prop := Blks n0 w B.oa B.g
def Bv.Small (B : Bv) : Prop := B.g.length ≤ 1000 ∧ ∀ i, insR B.g i ≤ 1000 ∧ (toR B.g i).length ≤ 1000
theorem Bv.At.below {B : Bv} {n0 n : Nat} {w w' : World} (h : B.At n0 w) (hB : Below n w w') (hn : n0 ≤ n) : B.At n0 w' := Blks.below h hB hn

set_option maxHeartbeats 1000000 in
theorem isPlace_any (n : Int) (L : Nat) (w : World) : Calls Try.prog 50 #[.int .i64 n, .int .i64 (L : Int)] w fun e w' => e = .returned (.bool (isPl n L)) ∧ w' = w := by
  go_enter Try.func50, Try.ntmps50
  by_cases h1 : 0 ≤ n
  · go_wp2
    go_ret
    simp [isPl, h1]
  · go_wp2
    go_ret
    simp [isPl, h1]
    omega

end Go.Proofs.Ytfpdecjlfnambaa
