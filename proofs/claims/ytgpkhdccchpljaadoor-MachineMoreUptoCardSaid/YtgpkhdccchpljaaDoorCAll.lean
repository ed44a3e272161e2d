/-
  Several texts of the proof in one: CBase, CSmall, CReads, CLies, CKinds, CMark, CView, CInstr, CFlow, CAhead, CFn, CCo, CValid. No conditions of their own: each lemma states its own.
-/
import Derived.Test.YtgpkhdccchpljaaDoorRows
import Derived.WalkKit
import Derived.WalkSpells
import Derived.WalkLawsBesides
import Derived.Deep.QuietTactic
import Derived.BigQuiet
import Derived.Handy
import Derived.Lib.Hide
import Derived.Deep.Light
import Derived.Lib.EndianBits
import Derived.Laws.BitsAllLaws
import Derived.Deep.OwnRows
import Derived.BigRegion
import Derived.StillTailTactics
import Derived.Deep.LoopGhost
import Derived.Deep.RegionWith
import Derived.Deep.RegionLaw
import Derived.Deep.DeepCutAuto
import Derived.Deep.CutBlock
namespace Go.Proofs.YtgpkhdccchpljaaDoor.C
open Go.RowKit

/-- an instruction -/
structure In where
  op : Int
  a : Int
  b : Int
  c : Int
  l : List Int

/-- a coroutine -/
structure Cr where
  re : Int
  ca : Int
  wo : Int
  ar : Int

/-- a program -/
structure Pg where
  fs : List (List In)
  cs : List Cr

/-- what A, B, C of an operation are, and its labels -/
structure Sh where
  f0 : Int
  f1 : Int
  f2 : Int
  lb : Int

def tab : List Sh := [⟨2, 3, 0, 0⟩, ⟨2, 5, 0, 0⟩, ⟨2, 1, 5, 0⟩, ⟨2, 1, 0, 0⟩, ⟨1, 1, 0, 0⟩, ⟨1, 1, 5, 0⟩, ⟨1, 1, 5, 0⟩, ⟨1, 0, 5, 0⟩, ⟨2, 1, 1, 1⟩, ⟨2, 1, 1, 1⟩, ⟨2, 1, 1, 1⟩, ⟨2, 1, 1, 0⟩, ⟨2, 1, 1, 0⟩, ⟨0, 0, 0, 1⟩, ⟨1, 0, 0, 1⟩,
  ⟨1, 0, 0, 2⟩, ⟨2, 0, 5, 0⟩, ⟨1, 0, 0, 0⟩, ⟨1, 0, 0, 0⟩, ⟨1, 4, 0, 0⟩, ⟨1, 0, 0, 0⟩, ⟨2, 1, 0, 0⟩, ⟨2, 6, 0, 0⟩, ⟨1, 0, 0, 1⟩, ⟨2, 1, 0, 1⟩, ⟨1, 0, 0, 0⟩, ⟨1, 7, 0, 0⟩, ⟨0, 0, 0, 0⟩, ⟨0, 0, 0, 0⟩, ⟨0, 0, 0, 0⟩]
def shp (op : Int) : Sh := if 0 ≤ op then tab.getD op.toNat ⟨0, 0, 0, 0⟩ else ⟨0, 0, 0, 0⟩
def known (op : Int) : Bool := decide (0 ≤ op) && decide (op < 30)

theorem shp_off {op : Int} (h : known op = false) : shp op = ⟨0, 0, 0, 0⟩ := by
  unfold shp
  split
  · have : tab.length ≤ op.toNat := by simp [known] at h; show 30 ≤ op.toNat; omega
    simp [List.getD, List.getElem?_eq_none this]
  · rfl

def i64 (z : Int) : Prop := -9223372036854775808 ≤ z ∧ z ≤ 9223372036854775807

/-- The table of operations lies where the program's text laid it. -/
def TabAt (w : World) : Prop := ∀ k s, tab[k]? = some s → w.cell? ⟨0, k * 4, none⟩ = some (.int .i64 s.f0) ∧ w.cell? ⟨0, k * 4 + 1, none⟩ = some (.int .i64 s.f1) ∧ w.cell? ⟨0, k * 4 + 2, none⟩ = some (.int .i64 s.f2) ∧ w.cell? ⟨0, k * 4 + 3, none⟩ = some (.int .i64 s.lb)

theorem TabAt.lt {w : World} (h : TabAt w) : 0 < w.heap.size := World.block_lt_of_cell? w _ (h 0 _ rfl).1
theorem TabAt.below {w w' : World} {B : Nat} (h : TabAt w) (hb : Below B w w') (hB : 0 < B) : TabAt w' := fun k s hs =>
  ⟨(hb.cell hB).trans (h k s hs).1, (hb.cell hB).trans (h k s hs).2.1, (hb.cell hB).trans (h k s hs).2.2.1, (hb.cell hB).trans (h k s hs).2.2.2⟩

def Sh.val (s : Sh) : Value := .agg #[.int .i64 s.f0, .int .i64 s.f1, .int .i64 s.f2, .int .i64 s.lb]

theorem known_any (op : Int) (w : World) : Calls Tryd.prog 67 #[.int .i64 op] w fun e w' => e = .returned (.bool (known op)) ∧ w' = w := by
  by_cases h0 : 0 ≤ op
  · have t0 : decide (op ≥ 0) = true := by simpa using h0
    by_cases h1 : op < 30
    · have t1 : decide (op < 30) = true := by simpa using h1
      go_enter Tryd.func67, Tryd.ntmps67
      go_wp2
      go_ret
      exact ⟨by simp [known, h0, h1], rfl⟩
    · have t1 : decide (op < 30) = false := by simpa using h1
      go_enter Tryd.func67, Tryd.ntmps67
      go_wp2
      go_ret
      exact ⟨by simp [known, h0, h1], rfl⟩
  · have t0 : decide (op ≥ 0) = false := by simpa using h0
    go_enter Tryd.func67, Tryd.ntmps67
    go_wp2
    go_ret
    exact ⟨by simp [known]; omega, rfl⟩

theorem alloc_cell (w : World) (c : Array Value) (t : TypeId) (j : Nat) (v : Value) (hv : c[j]? = some v) : (w.alloc (.cells c t)).cell? ⟨w.heap.size, j, none⟩ = some v := by
  simp only [World.cell?]
  rw [heap_alloc_new]
  simpa using hv
theorem box_cell {w w1 : World} {c : Array Value} {t : TypeId} (hb : Below (w.alloc (.cells c t)).heap.size (w.alloc (.cells c t)) w1) (j : Nat) (v : Value) (hv : c[j]? = some v) : w1.cell? ⟨w.heap.size, j, none⟩ = some v :=
  (hb.cell (p := ⟨w.heap.size, j, none⟩) (by simp)).trans (alloc_cell w c t j v hv)
theorem box_below {w w1 : World} {o : Obj} (hb : Below (w.alloc o).heap.size (w.alloc o) w1) : Below w.heap.size w w1 :=
  ((Below.refl _ _).alloc (Nat.le_refl _) o).trans (hb.mono (by simp))

theorem shapeOf_any (op : Int) (w : World) (ht : TabAt w) : Calls Tryd.prog 69 #[.int .i64 op] w fun e w' => e = .returned (shp op).val ∧ Below w.heap.size w w' := by
  have h0lt := ht.lt
  cases hk : known op with
  | false =>
    have HK := Lib.hid hk
    clear hk ht
    go_enter Tryd.func69, Tryd.ntmps69
    go_wp2_with fail
    refine (known_any op _).mono ?_
    rintro e w1 ⟨rfl, rfl⟩
    rw [HK.out]
    go_wp2
    go_returns
    exact ⟨by rw [shp_off HK.out]; rfl, (Below.refl _ _).alloc (Nat.le_refl _) _⟩
  | true =>
    have h01 : 0 ≤ op ∧ op < 30 := by simpa [known] using hk
    have HK := Lib.hid hk
    obtain ⟨k, rfl⟩ : ∃ k : Nat, op = k := ⟨op.toNat, by omega⟩
    have hk30 : k < 30 := by omega
    obtain ⟨s, hs⟩ : ∃ s, tab[k]? = some s := ⟨_, List.getElem?_eq_getElem (show k < tab.length from hk30)⟩
    have HS := Lib.hid hs
    obtain ⟨g0, g1, g2, g3⟩ := ht k s hs
    have hl : ∀ (o : Obj) (p : Addr), p.block < w.heap.size → (w.alloc o).cell? p = w.cell? p := fun o p hp => ((Below.refl _ _).alloc (Nat.le_refl _) o).cell hp
    have e0 := fun o => (hl o ⟨0, k * 4, none⟩ h0lt).trans g0
    have e1 := fun o => (hl o ⟨0, k * 4 + 1, none⟩ h0lt).trans g1
    have e2 := fun o => (hl o ⟨0, k * 4 + 2, none⟩ h0lt).trans g2
    have e3 := fun o => (hl o ⟨0, k * 4 + 3, none⟩ h0lt).trans g3
    clear hk ht hs h01 hl g0 g1 g2 g3
    go_enter Tryd.func69, Tryd.ntmps69
    go_wp2_with fail
    refine (known_any k _).mono ?_
    rintro e w1 ⟨rfl, rfl⟩
    rw [HK.out]
    go_wp2
    go_returns
    refine ⟨?_, ?_⟩
    · have : shp k = s := by simp [shp, List.getD, HS.out]
      rw [this]; rfl
    · exact (Below.refl _ _).alloc (Nat.le_refl _) _
end Go.Proofs.YtgpkhdccchpljaaDoor.C

namespace Go.Proofs.YtgpkhdccchpljaaDoor.C
open Go.RowKit

def In.val (x : In) (lv : Value) : Value := .agg #[.int .i64 x.op, .int .i64 x.a, .int .i64 x.b, .int .i64 x.c, lv]

/-- the numbers of a slice -/
def IntsV (w : World) (v : Value) (l : List Int) : Prop :=
  ∃ oa cap b off, v = .slice oa l.length cap ∧ l.length ≤ cap ∧ cap ≤ maxLen ∧ (0 < l.length → oa = some ⟨b, off, none⟩ ∧ b < w.heap.size) ∧ ∀ i z, l[i]? = some z → w.cell? ⟨b, off + i, none⟩ = some (.int .i64 z)

theorem IntsV.below {w w' : World} {v : Value} {l : List Int} (h : IntsV w v l) (hb : Below w.heap.size w w') : IntsV w' v l := by
  obtain ⟨oa, cap, b, off, rfl, h1, h2, h3, h4⟩ := h
  refine ⟨oa, cap, b, off, rfl, h1, h2, fun h => ⟨(h3 h).1, Nat.lt_of_lt_of_le (h3 h).2 hb.size⟩, fun i z hz => ?_⟩
  exact (hb.cell (p := ⟨b, off + i, none⟩) (h3 (by have := (List.getElem?_eq_some_iff.1 hz).1; omega)).2).trans (h4 i z hz)

def below (n m : Int) : Bool := decide (0 ≤ n) && decide (n < m)

theorem below_any (n m : Int) (w : World) : Calls Tryd.prog 49 #[.int .i64 n, .int .i64 m] w fun e w' => e = .returned (.bool (below n m)) ∧ w' = w := by
  by_cases h0 : 0 ≤ n
  · have t0 : decide (n ≥ 0) = true := by simpa using h0
    by_cases h1 : n < m
    · have t1 : decide (n < m) = true := by simpa using h1
      go_enter Tryd.func49, Tryd.ntmps49
      go_wp2
      go_ret
      exact ⟨by simp [below, h0, h1], rfl⟩
    · have t1 : decide (n < m) = false := by simpa using h1
      go_enter Tryd.func49, Tryd.ntmps49
      go_wp2
      go_ret
      exact ⟨by simp [below, h0, h1], rfl⟩
  · have t0 : decide (n ≥ 0) = false := by simpa using h0
    go_enter Tryd.func49, Tryd.ntmps49
    go_wp2
    go_ret
    exact ⟨by simp [below]; omega, rfl⟩

def standsB (op k : Int) : Bool :=
  if op = 1 then k != 0 else if op = 20 ∨ op = 21 ∨ op = 23 ∨ op = 24 ∨ op = 27 ∨ op = 28 then k == 1 else if op = 29 then k != 1 else true

set_option maxHeartbeats 1000000 in
theorem stands_any (op k : Int) (w : World) : Calls Tryd.prog 68 #[.int .i64 op, .int .i64 k] w fun e w' => e = .returned (.bool (standsB op k)) ∧ w' = w := by
  go_enter Tryd.func68, Tryd.ntmps68
  go_wp2
  all_goals go_ret
  all_goals refine ⟨?_, rfl⟩
  all_goals go_light
  all_goals (show Ending.returned (Value.bool _) = Ending.returned (Value.bool _); congr 2; simp_all [standsB])

def fallsB (op : Int) : Bool := known op && !(op == 13 || op == 15 || op == 27 || op == 28 || op == 29)

set_option maxHeartbeats 1000000 in
theorem falls_any (x : In) (lv : Value) (w : World) : Calls Tryd.prog 51 #[x.val lv] w fun e w' => e = .returned (.bool (fallsB x.op)) ∧ Below w.heap.size w w' := by
  unfold In.val
  go_enter Tryd.func51, Tryd.ntmps51
  go_wp2_with (go_at_call 67; refine (known_any x.op _).mono ?_; rintro e w1 ⟨rfl, rfl⟩)
  all_goals go_ret
  all_goals go_light
  all_goals refine ⟨?_, (Below.refl _ _).alloc (Nat.le_refl _) _⟩
  all_goals (show Ending.returned (Value.bool _) = Ending.returned (Value.bool _); congr 2; simp_all [fallsB])

theorem fieldsOf_any (x : In) (lv : Value) (w : World) : Calls Tryd.prog 70 #[x.val lv] w fun e w' => e = .returned (.agg #[.int .i64 x.a, .int .i64 x.b, .int .i64 x.c]) ∧ Below w.heap.size w w' := by
  unfold In.val
  go_enter Tryd.func70, Tryd.ntmps70
  go_wp2
  go_returns
  exact ⟨rfl, ((Below.refl _ _).alloc (Nat.le_refl _) _).alloc (by simp) _⟩

theorem pow16 (r : Nat) (hr : r < 16) : (2 : Nat) ^ r < 65536 := by
  have : (2 : Nat) ^ r < 2 ^ 16 := Nat.pow_lt_pow_right (by decide) hr
  simpa using this
theorem lift_pow (r : Nat) (hr : r < 16) : IntKind.u16.wrap (2 ^ r) = ((2 ^ r : Nat) : Int) := by
  have := pow16 r hr
  rw [wraps_u16 _ (Int.le_of_lt (Int.pow_pos (by decide)))]
  · simp
  · have : ((2 ^ r : Nat) : Int) < 65536 := by omega
    simpa using this
theorem or16 (m n : Nat) (hm : m < 65536) (hn : n < 65536) : bits .or .u16 (m : Int) (n : Int) = ((m ||| n : Nat) : Int) := (bits_nat .u16 16 (by decide) wraps_u16 m n hm hn).2
theorem and16 (m n : Nat) (hm : m < 65536) (hn : n < 65536) : bits .and .u16 (m : Int) (n : Int) = ((m &&& n : Nat) : Int) := (bits_nat .u16 16 (by decide) wraps_u16 m n hm hn).1
theorem or_lt {m r : Nat} (hm : m < 65536) (hr : r < 16) : m ||| 2 ^ r < 65536 := Nat.or_lt_two_pow (n := 16) hm (pow16 r hr)

theorem with_any (m r : Nat) (hm : m < 65536) (hr : r < 16) (w : World) : Calls Tryd.prog 53 #[.int .u16 m, .int .i64 r] w fun e w' => e = .returned (.int .u16 ((m ||| 2 ^ r : Nat) : Int)) ∧ w' = w := by
  have h0 : (0 : Int) ≤ r := by omega
  have e := (congrArg (bits .or .u16 (m : Int)) (lift_pow r hr)).trans (or16 m (2 ^ r) hm (pow16 r hr))
  replace e := Lib.hid e
  go_enter Tryd.func53, Tryd.ntmps53
  go_wp2
  go_ret
  refine ⟨?_, rfl⟩
  rw [← e.out]
  rfl

theorem has_any (m r : Nat) (hm : m < 65536) (hr : r < 16) (w : World) : Calls Tryd.prog 74 #[.int .u16 m, .int .i64 r] w fun e w' => e = .returned (.bool (m.testBit r)) ∧ w' = w := by
  have h0 : (0 : Int) ≤ r := by omega
  have e : (bits .and .u16 ((m : Int) / 2 ^ r) 1 == 1) = m.testBit r := by
    have h2 : ((m : Int) / 2 ^ r) = ((m / 2 ^ r : Nat) : Int) := by simp
    have h3 : m / 2 ^ r < 65536 := Nat.lt_of_le_of_lt (Nat.div_le_self _ _) hm
    rw [h2, show (1 : Int) = ((1 : Nat) : Int) from rfl, and16 _ _ h3 (by decide), Nat.and_one_is_mod, Nat.testBit_eq_decide_div_mod_eq]
    by_cases hb : m / 2 ^ r % 2 = 1
    · simp [hb]
    · have : m / 2 ^ r % 2 = 0 := by omega
      simp [this]
  replace e := Lib.hid e
  go_enter Tryd.func74, Tryd.ntmps74
  go_wp2
  go_ret
  refine ⟨?_, rfl⟩
  rw [← e.out]
  rfl

theorem andNot16 (m n : Nat) (hm : m < 65536) (hn : n < 65536) : (bits .andNot .u16 (m : Int) (n : Int) == 0) = true ↔ ∀ r, m.testBit r = true → n.testBit r = true := by
  have e : bits .andNot .u16 (m : Int) (n : Int) = ((m &&& (65535 - n) : Nat) : Int) := by
    show IntKind.u16.wrap ((BitVec.ofInt 16 (m : Int) &&& ~~~BitVec.ofInt 16 (n : Int)).toNat : Int) = _
    have o : ∀ k : Nat, k < 65536 → (BitVec.ofInt 16 (k : Int)).toNat = k := fun k hk => by
      simp; omega
    rw [BitVec.toNat_and, BitVec.toNat_not, o m hm, o n hn]
    have : m &&& (2 ^ 16 - 1 - n) < 65536 := Nat.lt_of_le_of_lt Nat.and_le_left hm
    exact wraps_u16 _ (by omega) (by have := this; omega)
  rw [e]
  have t : ∀ r, (m &&& (65535 - n)).testBit r = (m.testBit r && !(n.testBit r)) := fun r => by
    have h1 : (65535 - n).testBit r = (decide (r < 16) && !(n.testBit r)) := by
      have := Nat.testBit_two_pow_sub_succ (n := 16) (x := n) (by simpa using hn) r
      rwa [show 2 ^ 16 - (n + 1) = 65535 - n from by omega] at this
    rw [Nat.testBit_and, h1]
    by_cases hr : r < 16
    · simp [hr]
    · have : m.testBit r = false := Nat.testBit_lt_two_pow (Nat.lt_of_lt_of_le hm (by simpa using Nat.pow_le_pow_right (show 0 < 2 by decide) (show 16 ≤ r by omega)))
      simp [this]
  constructor
  · intro h r hr
    have h0 : m &&& (65535 - n) = 0 := by simpa using h
    have := t r
    rw [h0, Nat.zero_testBit, hr] at this
    simpa using this
  · intro h
    have h0 : m &&& (65535 - n) = 0 := Nat.eq_of_testBit_eq fun r => by
      rw [t r, Nat.zero_testBit]
      cases hr : m.testBit r with
      | false => rfl
      | true => simp [h r hr]
    simp [h0]
end Go.Proofs.YtgpkhdccchpljaaDoor.C

namespace Go.Proofs.YtgpkhdccchpljaaDoor.C
open Go.RowKit

theorem info3 : (Tryd.prog.info? 3).map (fun i => (i.zero, i.size, i.bytes)) = some (some (.int .i64 0), 1, 8) := by kernel_rfl
theorem info_parts {t : TypeId} {z : Value} {size bytes : Nat} (h : (Tryd.prog.info? t).map (fun i => (i.zero, i.size, i.bytes)) = some (some z, size, bytes)) : ∃ i, Tryd.prog.info? t = some i ∧ i.zero = some z ∧ i.size = size ∧ i.bytes = bytes := by
  cases hi : Tryd.prog.info? t with
  | none => rw [hi] at h; cases h
  | some i =>
    rw [hi] at h
    simp only [Option.map_some, Option.some.injEq, Prod.mk.injEq] at h
    exact ⟨i, rfl, h.1, h.2.1, h.2.2⟩
theorem new_cells (w : World) (l : List Value) (t : TypeId) (g : Nat) (hg : g = w.heap.size) : ∀ j u, l[j]? = some u → (w.alloc (.cells l.toArray t)).cell? ((⟨g, 0, none⟩ : Addr).add j) = some u := by
  intro j u hu
  subst hg
  have e : ((⟨w.heap.size, 0, none⟩ : Addr).add j) = ⟨w.heap.size, j, none⟩ := by unfold Addr.add; split <;> simp_all
  rw [e]
  exact alloc_cell w l.toArray t j u (by simpa using hu)
theorem row_shape {w : World} {base e size n : Nat} {v : Value} {xs : List Value} (h : w.ownsRow base e size v n xs) : ∃ og g cap, v = .slice og n cap ∧ (0 < n → og = some ⟨g, 0, none⟩) := by
  rcases h.2 with ⟨rfl, rfl⟩ | ⟨g, cap, cur, rfl, _⟩
  · exact ⟨none, 0, 0, rfl, fun h => absurd h (Nat.lt_irrefl _)⟩
  · exact ⟨_, g, cap, rfl, fun _ => rfl⟩

/-- a row of numbers that a call owns is a slice of numbers -/
theorem IntsV.own {w : World} {base : Nat} {v : Value} {l : List Int} (h : w.ownsRow base 3 1 v l.length (l.map (Value.int .i64))) : IntsV w v l := by
  rcases h.2 with ⟨rfl, h0⟩ | ⟨g, cap, cur, rfl, hb, hg, hn, hm, hs, ht⟩
  · have : l = [] := by cases l; rfl; simp at h0
    subst this
    exact ⟨none, 0, 0, 0, rfl, Nat.le_refl _, Nat.zero_le _, fun h => absurd h (Nat.lt_irrefl _), fun i z hz => by simp at hz⟩
  · refine ⟨_, cap, g, 0, rfl, hn, hm, fun _ => ⟨rfl, (Array.getElem?_eq_some_iff.1 hg).1⟩, fun i z hz => ?_⟩
    have hi : i < l.length := (List.getElem?_eq_some_iff.1 hz).1
    have e : cur.toList[i]? = some (.int .i64 z) := by
      have : (cur.toList.take (l.length * 1))[i]? = some (.int .i64 z) := by rw [ht]; simp [hz]
      rwa [List.getElem?_take_of_lt (by omega)] at this
    simp only [World.cell?, hg, Nat.zero_add]
    simpa using e

def fl (f z : Int) : List Int := if f = 1 then [z] else []
def readsL (x : In) : List Int := fl (shp x.op).f0 x.a ++ fl (shp x.op).f1 x.b ++ fl (shp x.op).f2 x.c
def rdU (x : In) : Nat → List Int
  | 0 => []
  | 1 => fl (shp x.op).f0 x.a
  | 2 => fl (shp x.op).f0 x.a ++ fl (shp x.op).f1 x.b
  | _ => readsL x
theorem fl_len (f z : Int) : (fl f z).length ≤ 1 := by unfold fl; split <;> simp

/-- the register that is written -/
def writesO (x : In) : Option Int := if (shp x.op).f0 = 2 then some x.a else if (shp x.op).f1 = 2 then some x.b else if (shp x.op).f2 = 2 then some x.c else none

set_option maxRecDepth 100000 in
set_option maxHeartbeats 2000000 in
theorem reads_any (x : In) (lv : Value) (w : World) (ht : TabAt w) : Calls Tryd.prog 73 #[x.val lv] w fun e w' => ∃ v, e = .returned v ∧ IntsV w' v (readsL x) ∧ Below w.heap.size w w' := by
  unfold In.val
  obtain ⟨i3, hi3, hz3, hs3, hb3⟩ := info_parts info3
  have HI := Lib.hid (And.intro hi3 (And.intro hz3 (And.intro hs3 hb3)))
  clear hi3 hz3 hs3 hb3
  have hts := ht.lt
  have ht1 : TabAt (w.alloc (.cells #[.int .i64 x.op, .int .i64 x.a, .int .i64 x.b, .int .i64 x.c, lv] 84)) := ht.below ((Below.refl _ _).alloc (Nat.le_refl _) _) hts
  replace ht1 := Lib.hid ht1
  clear ht
  go_enter Tryd.func73, Tryd.ntmps73
  go_wp2_with fail
  refine (shapeOf_any x.op _ ht1.out).mono ?_
  rintro e w1 ⟨rfl, hb1⟩
  clear ht1
  have hB := box_below hb1
  have x0 := box_cell hb1 0 (.int .i64 x.op) rfl
  have x1 := box_cell hb1 1 (.int .i64 x.a) rfl
  have x2 := box_cell hb1 2 (.int .i64 x.b) rfl
  have x3 := box_cell hb1 3 (.int .i64 x.c) rfl
  have x4 := box_cell hb1 4 lv rfl
  have hlt := World.block_lt_of_cell? w1 _ x0
  clear hb1
  unfold Sh.val
  go_wp2_with fail
  refine (fieldsOf_any x lv _).mono ?_
  rintro e w2 ⟨rfl, hb2⟩
  have s0 := box_cell hb2 0 (.int .i64 (shp x.op).f0) rfl
  have s1 := box_cell hb2 1 (.int .i64 (shp x.op).f1) rfl
  have s2 := box_cell hb2 2 (.int .i64 (shp x.op).f2) rfl
  have hlt2 := World.block_lt_of_cell? w2 _ s0
  replace hB := hB.trans ((box_below hb2).mono hB.size)
  clear hb2 x0 x1 x2 x3 x4 hlt
  generalize w1.heap.size = bs at s0 s1 s2 hlt2 ⊢
  obtain ⟨F0, hF0⟩ : ∃ F, F = (shp x.op).f0 := ⟨_, rfl⟩
  obtain ⟨F1, hF1⟩ : ∃ F, F = (shp x.op).f1 := ⟨_, rfl⟩
  obtain ⟨F2, hF2⟩ : ∃ F, F = (shp x.op).f2 := ⟨_, rfl⟩
  simp only [← hF0] at s0 ⊢
  simp only [← hF1] at s1 ⊢
  simp only [← hF2] at s2 ⊢
  replace hF0 := Lib.hid hF0
  replace hF1 := Lib.hid hF1
  replace hF2 := Lib.hid hF2
  have i0 : ∀ w, (Instr.index 135 (.agg #[.int .i64 x.a, .int .i64 x.b, .int .i64 x.c]) (.int .i64 0)).run Tryd.prog w = .ok (.int .i64 x.a) w := fun _ => by kernel_rfl
  have i1 : ∀ w, (Instr.index 135 (.agg #[.int .i64 x.a, .int .i64 x.b, .int .i64 x.c]) (.int .i64 1)).run Tryd.prog w = .ok (.int .i64 x.b) w := fun _ => by kernel_rfl
  have i2 : ∀ w, (Instr.index 135 (.agg #[.int .i64 x.a, .int .i64 x.b, .int .i64 x.c]) (.int .i64 2)).run Tryd.prog w = .ok (.int .i64 x.c) w := fun _ => by kernel_rfl
  go_wp2_with fail
  go_loopw [3, 12] (fun u i wr => ∃ j : Nat, j ≤ 3 ∧ i = .int .i64 j ∧ wr.ownsRow w2.heap.size 3 1 u (rdU x j).length ((rdU x j).map (Value.int .i64)) ∧ Below w2.heap.size w2 wr) (fun _ i _ => 3 - (intOf i).toNat)
  case atStart => exact ⟨0, by omega, rfl, World.ownsRow_nil _ _ _ _, Below.refl _ _⟩
  case round =>
    obtain ⟨j, hj, hi, hown, hbw⟩ := hrel
    replace s0 := (hbw.cell (p := ⟨bs, 0, none⟩) hlt2).trans s0
    replace s1 := (hbw.cell (p := ⟨bs, 1, none⟩) hlt2).trans s1
    replace s2 := (hbw.cell (p := ⟨bs, 2, none⟩) hlt2).trans s2
    have hsz := hbw.size
    have hj4 : j = 0 ∨ j = 1 ∨ j = 2 ∨ j = 3 := by omega
    rcases hj4 with rfl | rfl | rfl | rfl
    · replace hi : u12 = .int .i64 0 := hi
      subst hi
      have he : rdU x 1 = rdU x 0 ++ fl (shp x.op).f0 x.a := by simp [rdU]
      have hle : (rdU x 0).length ≤ 0 := by simp [rdU]
      have HE := Lib.hid he
      clear he
      by_cases hf : F0 = 1
      · have HE2 := Lib.hid (show rdU x 1 = rdU x 0 ++ [x.a] by rw [HE.out, ← hF0.out, hf]; rfl)
        have t1 : (F0 == 1) = true := by simpa using hf
        obtain ⟨hi3, hz3, hs3, hb3⟩ := HI.out
        clear HE hf
        obtain ⟨L, hL⟩ : ∃ L, L = rdU x 0 := ⟨_, rfl⟩
        rw [← hL] at hown hle HE2
        clear hL
        go_wp2_with (at_builtin; refine wpList_append_own _ rfl (.tmp 21) (.tmp 23) 34 rfl w2.heap.size 3 i3 _ 1 8 Tryd.underlying34 hi3 hz3 hs3 hb3 rfl (by decide) u3 L.length _ rfl (hown.alloc _) ⟨wr.heap.size, 0, none⟩ 1 1 [.int .i64 x.a] rfl rfl ?c1 ?c2 ?c3 ?c4 ?c5 ?_)
        case c1 => exact new_cells wr [.int .i64 x.a] 3 _ rfl
        case c2 => intro u hu; simp at hu; rcases hu with rfl; rfl
        case c3 => unfold maxLen; omega
        case c4 => omega
        case c5 => simp; omega
        intro v' w' hown' hgrow _
        have hb' : Below w2.heap.size w2 w' := (hbw.alloc hsz _).grown hgrow (by simp; omega) fun j hj => (hown.lt j hj).1
        have hown2 : w'.ownsRow w2.heap.size 3 1 v' (L ++ [x.a]).length ((L ++ [x.a]).map (Value.int .i64)) := by
          rw [List.length_append, List.length_singleton, List.map_append]
          exact hown'
        clear hown' hgrow hown
        go_wp2
        go_roundw
        case rel => exact ⟨1, by omega, by go_num, by rw [HE2.out]; exact hown2, hb'⟩
        case measure => simp [intOf]
      · have HE2 := Lib.hid (show rdU x 1 = rdU x 0 by rw [HE.out, ← hF0.out, fl, if_neg hf, List.append_nil])
        have t1 : (F0 == 1) = false := by simpa using hf
        clear HE hf
        go_wp2
        go_roundw
        case rel => exact ⟨1, by omega, by go_num, by rw [HE2.out]; exact hown, hbw⟩
        case measure => simp [intOf]
    · replace hi : u12 = .int .i64 1 := hi
      subst hi
      have he : rdU x 2 = rdU x 1 ++ fl (shp x.op).f1 x.b := by rfl
      have hle : (rdU x 1).length ≤ 1 := by exact fl_len _ _
      have HE := Lib.hid he
      clear he
      by_cases hf : F1 = 1
      · have HE2 := Lib.hid (show rdU x 2 = rdU x 1 ++ [x.b] by rw [HE.out, ← hF1.out, hf]; rfl)
        have t1 : (F1 == 1) = true := by simpa using hf
        obtain ⟨hi3, hz3, hs3, hb3⟩ := HI.out
        clear HE hf
        obtain ⟨L, hL⟩ : ∃ L, L = rdU x 1 := ⟨_, rfl⟩
        rw [← hL] at hown hle HE2
        clear hL
        go_wp2_with (at_builtin; refine wpList_append_own _ rfl (.tmp 21) (.tmp 23) 34 rfl w2.heap.size 3 i3 _ 1 8 Tryd.underlying34 hi3 hz3 hs3 hb3 rfl (by decide) u3 L.length _ rfl (hown.alloc _) ⟨wr.heap.size, 0, none⟩ 1 1 [.int .i64 x.b] rfl rfl ?c1 ?c2 ?c3 ?c4 ?c5 ?_)
        case c1 => exact new_cells wr [.int .i64 x.b] 3 _ rfl
        case c2 => intro u hu; simp at hu; rcases hu with rfl; rfl
        case c3 => unfold maxLen; omega
        case c4 => omega
        case c5 => simp; omega
        intro v' w' hown' hgrow _
        have hb' : Below w2.heap.size w2 w' := (hbw.alloc hsz _).grown hgrow (by simp; omega) fun j hj => (hown.lt j hj).1
        have hown2 : w'.ownsRow w2.heap.size 3 1 v' (L ++ [x.b]).length ((L ++ [x.b]).map (Value.int .i64)) := by
          rw [List.length_append, List.length_singleton, List.map_append]
          exact hown'
        clear hown' hgrow hown
        go_wp2
        go_roundw
        case rel => exact ⟨2, by omega, by go_num, by rw [HE2.out]; exact hown2, hb'⟩
        case measure => simp [intOf]
      · have HE2 := Lib.hid (show rdU x 2 = rdU x 1 by rw [HE.out, ← hF1.out, fl, if_neg hf, List.append_nil])
        have t1 : (F1 == 1) = false := by simpa using hf
        clear HE hf
        go_wp2
        go_roundw
        case rel => exact ⟨2, by omega, by go_num, by rw [HE2.out]; exact hown, hbw⟩
        case measure => simp [intOf]
    · replace hi : u12 = .int .i64 2 := hi
      subst hi
      have he : rdU x 3 = rdU x 2 ++ fl (shp x.op).f2 x.c := by rfl
      have hle : (rdU x 2).length ≤ 2 := by have := fl_len (shp x.op).f0 x.a; have := fl_len (shp x.op).f1 x.b; simp [rdU]; omega
      have HE := Lib.hid he
      clear he
      by_cases hf : F2 = 1
      · have HE2 := Lib.hid (show rdU x 3 = rdU x 2 ++ [x.c] by rw [HE.out, ← hF2.out, hf]; rfl)
        have t1 : (F2 == 1) = true := by simpa using hf
        obtain ⟨hi3, hz3, hs3, hb3⟩ := HI.out
        clear HE hf
        obtain ⟨L, hL⟩ : ∃ L, L = rdU x 2 := ⟨_, rfl⟩
        rw [← hL] at hown hle HE2
        clear hL
        go_wp2_with (at_builtin; refine wpList_append_own _ rfl (.tmp 21) (.tmp 23) 34 rfl w2.heap.size 3 i3 _ 1 8 Tryd.underlying34 hi3 hz3 hs3 hb3 rfl (by decide) u3 L.length _ rfl (hown.alloc _) ⟨wr.heap.size, 0, none⟩ 1 1 [.int .i64 x.c] rfl rfl ?c1 ?c2 ?c3 ?c4 ?c5 ?_)
        case c1 => exact new_cells wr [.int .i64 x.c] 3 _ rfl
        case c2 => intro u hu; simp at hu; rcases hu with rfl; rfl
        case c3 => unfold maxLen; omega
        case c4 => omega
        case c5 => simp; omega
        intro v' w' hown' hgrow _
        have hb' : Below w2.heap.size w2 w' := (hbw.alloc hsz _).grown hgrow (by simp; omega) fun j hj => (hown.lt j hj).1
        have hown2 : w'.ownsRow w2.heap.size 3 1 v' (L ++ [x.c]).length ((L ++ [x.c]).map (Value.int .i64)) := by
          rw [List.length_append, List.length_singleton, List.map_append]
          exact hown'
        clear hown' hgrow hown
        go_wp2
        go_roundw
        case rel => exact ⟨3, by omega, by go_num, by rw [HE2.out]; exact hown2, hb'⟩
        case measure => simp [intOf]
      · have HE2 := Lib.hid (show rdU x 3 = rdU x 2 by rw [HE.out, ← hF2.out, fl, if_neg hf, List.append_nil])
        have t1 : (F2 == 1) = false := by simpa using hf
        clear HE hf
        go_wp2
        go_roundw
        case rel => exact ⟨3, by omega, by go_num, by rw [HE2.out]; exact hown, hbw⟩
        case measure => simp [intOf]
    · replace hi : u12 = .int .i64 3 := hi
      subst hi
      go_wp2
      go_ret
      exact ⟨_, rfl, IntsV.own hown, hB.trans (hbw.mono hB.size)⟩

def writesV (o : Option Int) : Value := match o with
  | some r => .tuple #[.int .i64 r, .bool true]
  | none => .tuple #[.int .i64 0, .bool false]
theorem writesV_some (r : Int) : writesV (some r) = .tuple #[.int .i64 r, .bool true] := rfl
theorem writesV_none : writesV none = .tuple #[.int .i64 0, .bool false] := rfl

set_option maxRecDepth 100000 in
set_option maxHeartbeats 2000000 in
theorem writes_any (x : In) (lv : Value) (w : World) (ht : TabAt w) : Calls Tryd.prog 75 #[x.val lv] w fun e w' => e = .returned (writesV (writesO x)) ∧ Below w.heap.size w w' := by
  unfold In.val
  have hts := ht.lt
  have ht1 : TabAt (w.alloc (.cells #[.int .i64 x.op, .int .i64 x.a, .int .i64 x.b, .int .i64 x.c, lv] 84)) := ht.below ((Below.refl _ _).alloc (Nat.le_refl _) _) hts
  replace ht1 := Lib.hid ht1
  clear ht
  go_enter Tryd.func75, Tryd.ntmps75
  go_wp2_with fail
  refine (shapeOf_any x.op _ ht1.out).mono ?_
  rintro e w1 ⟨rfl, hb1⟩
  clear ht1
  have hB := box_below hb1
  have x0 := box_cell hb1 0 (.int .i64 x.op) rfl
  have x1 := box_cell hb1 1 (.int .i64 x.a) rfl
  have x2 := box_cell hb1 2 (.int .i64 x.b) rfl
  have x3 := box_cell hb1 3 (.int .i64 x.c) rfl
  have x4 := box_cell hb1 4 lv rfl
  have hlt := World.block_lt_of_cell? w1 _ x0
  clear hb1
  unfold Sh.val
  go_wp2_with fail
  refine (fieldsOf_any x lv _).mono ?_
  rintro e w2 ⟨rfl, hb2⟩
  have s0 := box_cell hb2 0 (.int .i64 (shp x.op).f0) rfl
  have s1 := box_cell hb2 1 (.int .i64 (shp x.op).f1) rfl
  have s2 := box_cell hb2 2 (.int .i64 (shp x.op).f2) rfl
  have hlt2 := World.block_lt_of_cell? w2 _ s0
  replace hB := hB.trans ((box_below hb2).mono hB.size)
  clear hb2 x0 x1 x2 x3 x4 hlt
  generalize w1.heap.size = bs at s0 s1 s2 hlt2 ⊢
  obtain ⟨F0, hF0⟩ : ∃ F, F = (shp x.op).f0 := ⟨_, rfl⟩
  obtain ⟨F1, hF1⟩ : ∃ F, F = (shp x.op).f1 := ⟨_, rfl⟩
  obtain ⟨F2, hF2⟩ : ∃ F, F = (shp x.op).f2 := ⟨_, rfl⟩
  have hW : writesO x = if F0 = 2 then some x.a else if F1 = 2 then some x.b else if F2 = 2 then some x.c else none := by rw [hF0, hF1, hF2]; rfl
  replace hW := Lib.hid hW
  simp only [← hF0] at s0 ⊢
  simp only [← hF1] at s1 ⊢
  simp only [← hF2] at s2 ⊢
  clear hF0 hF1 hF2
  have i0 : ∀ w, (Instr.index 135 (.agg #[.int .i64 x.a, .int .i64 x.b, .int .i64 x.c]) (.int .i64 0)).run Tryd.prog w = .ok (.int .i64 x.a) w := fun _ => by kernel_rfl
  have i1 : ∀ w, (Instr.index 135 (.agg #[.int .i64 x.a, .int .i64 x.b, .int .i64 x.c]) (.int .i64 1)).run Tryd.prog w = .ok (.int .i64 x.b) w := fun _ => by kernel_rfl
  have i2 : ∀ w, (Instr.index 135 (.agg #[.int .i64 x.a, .int .i64 x.b, .int .i64 x.c]) (.int .i64 2)).run Tryd.prog w = .ok (.int .i64 x.c) w := fun _ => by kernel_rfl
  go_wp2_with fail
  go_loop [12] (fun i => ∃ j : Nat, j ≤ 3 ∧ i = .int .i64 j ∧ (0 < j → F0 ≠ 2) ∧ (1 < j → F1 ≠ 2) ∧ (2 < j → F2 ≠ 2)) (fun i => 3 - (intOf i).toNat)
  case atStart => exact ⟨0, by omega, rfl, by omega, by omega, by omega⟩
  case round =>
    obtain ⟨j, hj, hi, n0, n1, n2⟩ := hrel
    replace n0 := Lib.hid n0
    replace n1 := Lib.hid n1
    replace n2 := Lib.hid n2
    have hj4 : j = 0 ∨ j = 1 ∨ j = 2 ∨ j = 3 := by omega
    rcases hj4 with rfl | rfl | rfl | rfl
    · replace hi : u12 = .int .i64 0 := hi
      subst hi
      by_cases hf : F0 = 2
      · have t1 : (F0 == 2) = true := by simpa using hf
        replace hf := Lib.hid hf
        go_wp2
        go_returns
        exact ⟨by rw [hW.out, if_pos hf.out]; rfl, hB⟩
      · have t1 : (F0 == 2) = false := by simpa using hf
        replace hf := Lib.hid hf
        go_wp2
        go_round
        case rel => exact ⟨1, by omega, by go_num, fun h => hf.out, fun h => absurd h (by omega), fun h => absurd h (by omega)⟩
        case measure => simp [intOf]
    · replace hi : u12 = .int .i64 1 := hi
      subst hi
      by_cases hf : F1 = 2
      · have t1 : (F1 == 2) = true := by simpa using hf
        replace hf := Lib.hid hf
        go_wp2
        go_returns
        exact ⟨by rw [hW.out, if_neg (n0.out (by omega)), if_pos hf.out]; rfl, hB⟩
      · have t1 : (F1 == 2) = false := by simpa using hf
        replace hf := Lib.hid hf
        go_wp2
        go_round
        case rel => exact ⟨2, by omega, by go_num, fun h => n0.out (by omega), fun h => hf.out, fun h => absurd h (by omega)⟩
        case measure => simp [intOf]
    · replace hi : u12 = .int .i64 2 := hi
      subst hi
      by_cases hf : F2 = 2
      · have t1 : (F2 == 2) = true := by simpa using hf
        replace hf := Lib.hid hf
        go_wp2
        go_returns
        exact ⟨by rw [hW.out, if_neg (n0.out (by omega)), if_neg (n1.out (by omega)), if_pos hf.out]; rfl, hB⟩
      · have t1 : (F2 == 2) = false := by simpa using hf
        replace hf := Lib.hid hf
        go_wp2
        go_round
        case rel => exact ⟨3, by omega, by go_num, fun h => n0.out (by omega), fun h => n1.out (by omega), fun h => hf.out⟩
        case measure => simp [intOf]
    · replace hi : u12 = .int .i64 3 := hi
      subst hi
      go_wp2
      go_returns
      exact ⟨by rw [hW.out, if_neg (n0.out (by omega)), if_neg (n1.out (by omega)), if_neg (n2.out (by omega))]; rfl, hB⟩
end Go.Proofs.YtgpkhdccchpljaaDoor.C

namespace Go.Proofs.YtgpkhdccchpljaaDoor.C
open Go.RowKit

/-- an instruction in five cells -/
def InC (w : World) (b o : Nat) (x : In) : Prop :=
  ∃ lv, w.cell? ⟨b, o, none⟩ = some (.int .i64 x.op) ∧ w.cell? ⟨b, o + 1, none⟩ = some (.int .i64 x.a) ∧ w.cell? ⟨b, o + 2, none⟩ = some (.int .i64 x.b) ∧ w.cell? ⟨b, o + 3, none⟩ = some (.int .i64 x.c) ∧
    w.cell? ⟨b, o + 4, none⟩ = some lv ∧ IntsV w lv x.l
/-- a function: a slice of instructions -/
def FunV (w : World) (v : Value) (f : List In) : Prop :=
  ∃ oa cap b off, v = .slice oa f.length cap ∧ f.length ≤ cap ∧ cap ≤ maxLen ∧ (0 < f.length → oa = some ⟨b, off, none⟩ ∧ b < w.heap.size) ∧ ∀ i x, f[i]? = some x → InC w b (off + i * 5) x
/-- a slice of functions -/
def FunsV (w : World) (v : Value) (fs : List (List In)) : Prop :=
  ∃ oa cap b off, v = .slice oa fs.length cap ∧ fs.length ≤ cap ∧ cap ≤ maxLen ∧ (0 < fs.length → oa = some ⟨b, off, none⟩ ∧ b < w.heap.size) ∧ ∀ i f, fs[i]? = some f → ∃ fv, w.cell? ⟨b, off + i, none⟩ = some fv ∧ FunV w fv f
/-- a coroutine in five cells -/
def CoC (w : World) (b o : Nat) (c : Cr) : Prop :=
  ∃ s, w.cell? ⟨b, o, none⟩ = some (.string s) ∧ w.cell? ⟨b, o + 1, none⟩ = some (.int .i64 c.re) ∧ w.cell? ⟨b, o + 2, none⟩ = some (.int .i64 c.ca) ∧ w.cell? ⟨b, o + 3, none⟩ = some (.int .i64 c.wo) ∧ w.cell? ⟨b, o + 4, none⟩ = some (.int .i64 c.ar)
/-- a slice of coroutines -/
def CosV (w : World) (v : Value) (cs : List Cr) : Prop :=
  ∃ oa cap b off, v = .slice oa cs.length cap ∧ cs.length ≤ cap ∧ cap ≤ maxLen ∧ (0 < cs.length → oa = some ⟨b, off, none⟩ ∧ b < w.heap.size) ∧ ∀ i c, cs[i]? = some c → CoC w b (off + i * 5) c

section
variable {w w' : World}
theorem InC.below {b o : Nat} {x : In} (h : InC w b o x) (hb : Below w.heap.size w w') : InC w' b o x := by
  obtain ⟨lv, h0, h1, h2, h3, h4, h5⟩ := h
  have hl : b < w.heap.size := World.block_lt_of_cell? w _ h0
  exact ⟨lv, (hb.cell hl).trans h0, (hb.cell hl).trans h1, (hb.cell hl).trans h2, (hb.cell hl).trans h3, (hb.cell hl).trans h4, h5.below hb⟩
theorem FunV.below {v : Value} {f : List In} (h : FunV w v f) (hb : Below w.heap.size w w') : FunV w' v f := by
  obtain ⟨oa, cap, b, off, rfl, h1, h2, h3, h4⟩ := h
  exact ⟨oa, cap, b, off, rfl, h1, h2, fun h => ⟨(h3 h).1, Nat.lt_of_lt_of_le (h3 h).2 hb.size⟩, fun i x hx => (h4 i x hx).below hb⟩
theorem FunsV.below {v : Value} {fs : List (List In)} (h : FunsV w v fs) (hb : Below w.heap.size w w') : FunsV w' v fs := by
  obtain ⟨oa, cap, b, off, rfl, h1, h2, h3, h4⟩ := h
  refine ⟨oa, cap, b, off, rfl, h1, h2, fun h => ⟨(h3 h).1, Nat.lt_of_lt_of_le (h3 h).2 hb.size⟩, fun i f hf => ?_⟩
  obtain ⟨fv, hv, hF⟩ := h4 i f hf
  exact ⟨fv, (hb.cell (World.block_lt_of_cell? w _ hv)).trans hv, hF.below hb⟩
theorem CosV.below {v : Value} {cs : List Cr} (h : CosV w v cs) (hb : Below w.heap.size w w') : CosV w' v cs := by
  obtain ⟨oa, cap, b, off, rfl, h1, h2, h3, h4⟩ := h
  refine ⟨oa, cap, b, off, rfl, h1, h2, fun h => ⟨(h3 h).1, Nat.lt_of_lt_of_le (h3 h).2 hb.size⟩, fun i c hc => ?_⟩
  obtain ⟨s, g0, g1, g2, g3, g4⟩ := h4 i c hc
  have hl : b < w.heap.size := World.block_lt_of_cell? w _ g0
  exact ⟨s, (hb.cell hl).trans g0, (hb.cell hl).trans g1, (hb.cell hl).trans g2, (hb.cell hl).trans g3, (hb.cell hl).trans g4⟩
end

theorem alloc_below (w : World) (o : Obj) : Below w.heap.size w (w.alloc o) := (Below.refl _ _).alloc (Nat.le_refl _) o

/-- a program's value -/
def PgV (w : World) (fv cv : Value) (p : Pg) : Prop := FunsV w fv p.fs ∧ CosV w cv p.cs
theorem PgV.below {w w' : World} {fv cv : Value} {p : Pg} (h : PgV w fv cv p) (hb : Below w.heap.size w w') : PgV w' fv cv p := ⟨h.1.below hb, h.2.below hb⟩

def setK (ks : List Int) (i k : Int) : List Int := if below i ks.length then ks.set i.toNat k else ks
def markAll (ks : List Int) (l : List Int) (k : Int) : List Int := l.foldl (fun ks i => setK ks i k) ks
def kindsL (p : Pg) : List Int := markAll (markAll (List.replicate p.fs.length 0) (p.cs.map Cr.ca) 2) (p.cs.map Cr.re) 1
theorem setK_len (ks : List Int) (i k : Int) : (setK ks i k).length = ks.length := by unfold setK; split <;> simp
theorem markAll_len (l : List Int) (k : Int) : ∀ ks : List Int, (markAll ks l k).length = ks.length := by
  induction l with
  | nil => intro ks; rfl
  | cons i l ih => intro ks; show (markAll (setK ks i k) l k).length = _; rw [ih, setK_len]
theorem kindsL_len (p : Pg) : (kindsL p).length = p.fs.length := by simp [kindsL, markAll_len]
theorem markAll_snoc (ks : List Int) (l : List Int) (i k : Int) : markAll ks (l ++ [i]) k = setK (markAll ks l k) i k := by simp [markAll]

def iv (l : List Int) : Array Value := (l.map (Value.int .i64)).toArray
theorem iv_set (l : List Int) (i : Nat) (k : Int) : (iv l).setIfInBounds i (.int .i64 k) = iv (l.set i k) := by simp [iv, List.map_set]

/-- the kinds lie in block g, their slice in block bk -/
structure KAt (w : World) (bk g : Nat) (ks : List Int) : Prop where
  hdr : w.heap[bk]? = some (.cells #[.slice (some ⟨g, 0, none⟩) ks.length ks.length] 34)
  row : w.heap[g]? = some (.cells (iv ks) 3)

theorem KAt.ne {w : World} {bk g : Nat} {ks : List Int} (h : KAt w bk g ks) : g ≠ bk := fun e => by
  have h1 := h.hdr
  have h2 := h.row
  rw [e] at h2
  rw [h1] at h2
  simp at h2
theorem KAt.next {w w' : World} {bk g : Nat} {ks : List Int} (h : KAt w bk g ks) (hb : Below w.heap.size w w') : KAt w' bk g ks :=
  ⟨(hb.block _ (Array.getElem?_eq_some_iff.1 h.hdr).1).trans h.hdr, (hb.block _ (Array.getElem?_eq_some_iff.1 h.row).1).trans h.row⟩

/-- what the closure leaves: block g alone is another -/
structure Only (g : Nat) (w w' : World) : Prop where
  os : w'.os = w.os
  tape : w'.tape = w.tape
  output : w'.output = w.output
  size : w.heap.size = w'.heap.size
  block : ∀ b, b ≠ g → w'.heap[b]? = w.heap[b]?
theorem Only.refl (g : Nat) (w : World) : Only g w w := ⟨rfl, rfl, rfl, rfl, fun _ _ => rfl⟩
theorem Only.setCell (w : World) (g i : Nat) (v : Value) : Only g w (w.setCell ⟨g, i, none⟩ v) := ⟨rfl, rfl, rfl, by simp [World.setCell], fun b hb => Below.heap_setCell w ⟨g, i, none⟩ v b hb⟩
theorem below_only {B g : Nat} {w0 w w' : World} (h : Below B w0 w) (ho : Only g w w') (hg : B ≤ g) : Below B w0 w' :=
  ⟨ho.os.trans h.os, ho.tape.trans h.tape, ho.output.trans h.output, by rw [← ho.size]; exact h.size, fun b hb => (ho.block b (by omega)).trans (h.block b hb)⟩

theorem kindsMark_any (w : World) (bk g : Nat) (ks : List Int) (f k : Int) (h : KAt w bk g ks) : Calls Tryd.prog 48 #[.int .i64 f, .int .i64 k, .pointer (some ⟨bk, 0, none⟩)] w fun e w' => e = .returned (.tuple #[]) ∧ KAt w' bk g (setK ks f k) ∧ Only g w w' := by
  have c0 : w.cell? ⟨bk, 0, none⟩ = some (.slice (some ⟨g, 0, none⟩) ks.length ks.length) := by simp [World.cell?, h.hdr]
  cases hb : below f ks.length with
  | false =>
    have HB := Lib.hid hb
    clear hb
    go_enter Tryd.func48, Tryd.ntmps48
    go_wp2_with fail
    refine (below_any f _ _).mono ?_
    rintro e w1 ⟨rfl, rfl⟩
    rw [HB.out]
    go_wp2
    go_end0
    exact ⟨rfl, by rw [setK, HB.out]; exact h, Only.refl _ _⟩
  | true =>
    have h01 : 0 ≤ f ∧ f < ks.length := by simpa [below] using hb
    have HB := Lib.hid hb
    clear hb
    obtain ⟨j, rfl⟩ : ∃ j : Nat, f = j := ⟨f.toNat, by omega⟩
    have hj : j < ks.length := by omega
    have c1 : w.cell? ⟨g, j, none⟩ = some (.int .i64 ks[j]) := by simp [World.cell?, h.row, iv, hj]
    have f1 : w.frozen? ⟨g, j, none⟩ = false := by simp [World.frozen?, h.row]
    have hlt := World.block_lt_of_cell? w _ c1
    go_enter Tryd.func48, Tryd.ntmps48
    go_wp2_with fail
    refine (below_any _ _ _).mono ?_
    rintro e w1 ⟨rfl, rfl⟩
    rw [HB.out]
    go_wp2
    go_end0
    refine ⟨rfl, ⟨?_, ?_⟩, Only.setCell _ _ _ _⟩
    · rw [setK_len, (Only.setCell _ g j _).block _ h.ne.symm]
      exact h.hdr
    · rw [setK, if_pos HB.out]
      have := heap_setCell_same _ g j _ 3 (.int .i64 k) h.row
      rw [iv_set] at this
      simpa using this
end Go.Proofs.YtgpkhdccchpljaaDoor.C

namespace Go.Proofs.YtgpkhdccchpljaaDoor.C
open Go.RowKit

theorem made_one (z : Value) (n : Nat) : madeCells #[z] n = (List.replicate n z).toArray := by
  apply Array.toList_inj.1
  rw [toList_madeCells_one]
theorem make_ints (n : Nat) (h : n ≤ 65536) (w : World) : (Instr.makeSlice 34 (.int .i64 (n : Int)) (.int .i64 (n : Int))).run Tryd.prog w = .ok (.slice (some ⟨w.heap.size, 0, none⟩) n n) (w.alloc (.cells (iv (List.replicate n 0)) 3)) := by
  rw [run_make_row' 34 3 (.int .i64 0) 8 Tryd.underlying34 info3 rfl .i64 .i64 n (by omega) (by omega) w, made_one]
  simp [iv]

theorem take_snoc {α : Type} (l : List α) (j : Nat) (x : α) (h : l[j]? = some x) : l.take (j + 1) = l.take j ++ [x] := by
  rw [List.take_add_one, h]; rfl

/-- the loops' state: the kinds so far -/
structure KSt (w0 : World) (box : Obj) (bk g : Nat) (ks : List Int) (wr : World) : Prop where
  at_ : KAt wr bk g ks
  below : Below w0.heap.size w0 wr
  box : wr.heap[w0.heap.size]? = some box
  gl : w0.heap.size < g

theorem IntsV.kat {w : World} {bk g : Nat} {ks : List Int} (h : KAt w bk g ks) (hm : ks.length ≤ maxLen) : IntsV w (.slice (some ⟨g, 0, none⟩) ks.length ks.length) ks :=
  ⟨_, _, g, 0, rfl, Nat.le_refl _, hm, fun _ => ⟨rfl, (Array.getElem?_eq_some_iff.1 h.row).1⟩, fun i z hz => by simp [World.cell?, h.row, iv, hz]⟩

theorem KSt.step {w0 wr w1 : World} {o o1 : Obj} {bk g : Nat} {ks ks' : List Int} (h : KSt w0 o bk g ks wr) (hK : KAt w1 bk g ks') (ho : Only g (wr.alloc o1) w1) : KSt w0 o bk g ks' w1 := by
  have hlt : w0.heap.size < wr.heap.size := (Array.getElem?_eq_some_iff.1 h.box).1
  refine ⟨hK, below_only (h.below.alloc (by omega) _) ho (by have := h.gl; omega), ?_, h.gl⟩
  rw [ho.block _ (by have := h.gl; omega), heap_alloc_old _ _ hlt]
  exact h.box

set_option maxRecDepth 100000 in
set_option maxHeartbeats 2000000 in
theorem kinds_any (w : World) (fv cv : Value) (p : Pg) (hP : PgV w fv cv p) (hn : p.fs.length ≤ 65536) (hm : p.cs.length ≤ 65536) : Calls Tryd.prog 31 #[.agg #[fv, cv]] w fun e w' => ∃ v, e = .returned v ∧ IntsV w' v (kindsL p) ∧ Below w.heap.size w w' := by
  have hmf : ∀ (fn : Fn) (first cap : Array Value) (w : World), (Instr.makeFunc fn first cap).run Tryd.prog w = .ok (.func fn first cap) w := fun _ _ _ _ => rfl
  obtain ⟨⟨oaf, capf, bf, off, rfl, hf1, hf2, hf3, hf4⟩, oac, capc, bc, offc, rfl, hc1, hc2, hc3, hc4⟩ := hP
  clear hf4 hf3
  replace hc3 := Lib.hid hc3
  replace hc4 := Lib.hid hc4
  have hmk := make_ints p.fs.length hn
  have h0 : KSt w (.cells #[.slice oaf p.fs.length capf, .slice oac p.cs.length capc] 25) (w.heap.size + 2) (w.heap.size + 1) (List.replicate p.fs.length 0) (((w.alloc (.cells #[.slice oaf p.fs.length capf, .slice oac p.cs.length capc] 25)).alloc (.cells (iv (List.replicate p.fs.length 0)) 3)).alloc (.cells #[.slice (some ⟨w.heap.size + 1, 0, none⟩) p.fs.length p.fs.length] 34)) := by
    refine ⟨⟨?_, ?_⟩, ((alloc_below _ _).alloc (by simp) _).alloc (by simp; omega) _, ?_, by omega⟩
    · rw [List.length_replicate]
      have := heap_alloc_new ((w.alloc (.cells #[.slice oaf p.fs.length capf, .slice oac p.cs.length capc] 25)).alloc (.cells (iv (List.replicate p.fs.length 0)) 3)) (.cells #[.slice (some ⟨w.heap.size + 1, 0, none⟩) p.fs.length p.fs.length] 34)
      simpa using this
    · rw [heap_alloc_old _ _ (by simp)]
      have := heap_alloc_new (w.alloc (.cells #[.slice oaf p.fs.length capf, .slice oac p.cs.length capc] 25)) (.cells (iv (List.replicate p.fs.length 0)) 3)
      simpa using this
    · rw [heap_alloc_old _ _ (by simp; omega), heap_alloc_old _ _ (by simp), heap_alloc_new]
  replace h0 := Lib.hid h0
  obtain ⟨n, hpn⟩ : ∃ n, n = p.fs.length := ⟨_, rfl⟩
  rw [← hpn] at hmk hn hf1
  simp only [← hpn] at h0 ⊢
  have hK : kindsL p = markAll (markAll (List.replicate n 0) (p.cs.map Cr.ca) 2) (p.cs.map Cr.re) 1 := by rw [hpn]; rfl
  replace hK := Lib.hid hK
  clear hpn
  go_enter Tryd.func31, Tryd.ntmps31
  go_wp2_with fail
  generalize hbk : w.heap.size + 2 = bk at h0 ⊢
  generalize hg : w.heap.size + 1 = g at h0 ⊢
  clear hbk hg hmk
  go_loopw [17] (fun u wr => ∃ j : Nat, j ≤ p.cs.length ∧ u = .int .i64 j ∧ KSt w (.cells #[.slice oaf n capf, .slice oac p.cs.length capc] 25) bk g (markAll (List.replicate n 0) ((p.cs.take j).map Cr.ca) 2) wr) (fun u _ => p.cs.length - (intOf u).toNat)
  case atStart => exact ⟨0, by omega, rfl, h0.out⟩
  case round =>
    clear h0
    obtain ⟨j, hj, rfl, S⟩ := hrel
    by_cases hjl : j < p.cs.length
    · have t1 : decide ((j : Int) < p.cs.length) = true := by simpa using hjl
      obtain ⟨rfl, hbc⟩ := hc3.out (by omega)
      obtain ⟨c, hc⟩ : ∃ c, p.cs[j]? = some c := ⟨_, List.getElem?_eq_getElem hjl⟩
      obtain ⟨s, g0, g1, g2, g3, g4⟩ := hc4.out j c hc
      have HC := Lib.hid (take_snoc p.cs j c hc)
      clear hc
      replace g0 := (S.below.cell hbc).trans g0
      replace g1 := (S.below.cell (p := ⟨bc, offc + j * 5 + 1, none⟩) hbc).trans g1
      replace g2 := (S.below.cell (p := ⟨bc, offc + j * 5 + 2, none⟩) hbc).trans g2
      replace g3 := (S.below.cell (p := ⟨bc, offc + j * 5 + 3, none⟩) hbc).trans g3
      replace g4 := (S.below.cell (p := ⟨bc, offc + j * 5 + 4, none⟩) hbc).trans g4
      go_wp2_with fail
      refine (kindsMark_any _ bk g _ c.ca 2 (S.at_.next (alloc_below _ _))).mono ?_
      rintro e w1 ⟨rfl, hK1, ho⟩
      have S1 := S.step hK1 ho
      clear S hK1 ho g0 g1 g2 g3 g4
      go_wp2
      go_roundw
      case rel => exact ⟨j + 1, by omega, by go_num, by rw [HC.out, List.map_append, List.map_singleton, markAll_snoc]; exact S1⟩
      case measure => simp [intOf]; omega
    · have t1 : decide ((j : Int) < p.cs.length) = false := by simpa using hjl
      obtain rfl : j = p.cs.length := by omega
      rw [List.take_length] at S
      obtain ⟨K1, hK1⟩ : ∃ K1, markAll (List.replicate n 0) (p.cs.map Cr.ca) 2 = K1 := ⟨_, rfl⟩
      rw [hK1] at S
      have hlen : K1.length = n := by rw [← hK1, markAll_len, List.length_replicate]
      have HK1 := Lib.hid (show kindsL p = markAll K1 (p.cs.map Cr.re) 1 by rw [hK.out, hK1])
      have b0 : wr.cell? ⟨w.heap.size, 0, none⟩ = some (.slice oaf n capf) := by simp [World.cell?, S.box]
      have b1 : wr.cell? ⟨w.heap.size, 1, none⟩ = some (.slice oac p.cs.length capc) := by simp [World.cell?, S.box]
      have hblt := World.block_lt_of_cell? _ _ b0
      clear hK1 hK
      replace hlen := Lib.hid hlen
      go_wp2_with fail
      go_loopw [29] (fun u wr => ∃ j : Nat, j ≤ p.cs.length ∧ u = .int .i64 j ∧ KSt w (.cells #[.slice oaf n capf, .slice oac p.cs.length capc] 25) bk g (markAll K1 ((p.cs.take j).map Cr.re) 1) wr) (fun u _ => p.cs.length - (intOf u).toNat)
      case atStart => exact ⟨0, by omega, rfl, S⟩
      case round =>
        clear S b0 b1 hblt
        obtain ⟨j, hj, rfl, S⟩ := hrel
        by_cases hjl : j < p.cs.length
        · have t1 : decide ((j : Int) < p.cs.length) = true := by simpa using hjl
          obtain ⟨rfl, hbc⟩ := hc3.out (by omega)
          obtain ⟨c, hc⟩ : ∃ c, p.cs[j]? = some c := ⟨_, List.getElem?_eq_getElem hjl⟩
          obtain ⟨s, g0, g1, g2, g3, g4⟩ := hc4.out j c hc
          have HC := Lib.hid (take_snoc p.cs j c hc)
          clear hc
          replace g0 := (S.below.cell hbc).trans g0
          replace g1 := (S.below.cell (p := ⟨bc, offc + j * 5 + 1, none⟩) hbc).trans g1
          replace g2 := (S.below.cell (p := ⟨bc, offc + j * 5 + 2, none⟩) hbc).trans g2
          replace g3 := (S.below.cell (p := ⟨bc, offc + j * 5 + 3, none⟩) hbc).trans g3
          replace g4 := (S.below.cell (p := ⟨bc, offc + j * 5 + 4, none⟩) hbc).trans g4
          go_wp2_with fail
          refine (kindsMark_any _ bk g _ c.re 1 (S.at_.next (alloc_below _ _))).mono ?_
          rintro e w1 ⟨rfl, hK1, ho⟩
          have S1 := S.step hK1 ho
          clear S hK1 ho g0 g1 g2 g3 g4
          go_wp2
          go_roundw
          case rel => exact ⟨j + 1, by omega, by go_num, by rw [HC.out, List.map_append, List.map_singleton, markAll_snoc]; exact S1⟩
          case measure => simp [intOf]; omega
        · have t1 : decide ((j : Int) < p.cs.length) = false := by simpa using hjl
          obtain rfl : j = p.cs.length := by omega
          rw [List.take_length, ← HK1.out] at S
          have hl2 : (kindsL p).length = n := by rw [HK1.out, markAll_len, hlen.out]
          have c0 : wr.cell? ⟨bk, 0, none⟩ = some (.slice (some ⟨g, 0, none⟩) (kindsL p).length (kindsL p).length) := by simp [World.cell?, S.at_.hdr]
          go_wp2
          go_ret
          have hI := IntsV.kat S.at_ (by rw [hl2]; unfold maxLen; omega)
          rw [hl2] at hI
          exact ⟨_, rfl, hI, S.below⟩
end Go.Proofs.YtgpkhdccchpljaaDoor.C

namespace Go.Proofs.YtgpkhdccchpljaaDoor.C
open Go.RowKit

/-- of each place what is written ahead of it (a bit each), if it was found -/
abbrev Md := List (Option Nat)
def mv (o : Option Nat) : Value := .int .u16 ((o.getD 0 : Nat) : Int)
def fdv (o : Option Nat) : Value := .bool o.isSome

structure WAt (B bF gF bA gA bT : Nat) (w : World) (st : Md) (todo : List Int) : Prop where
  hF : w.heap[bF]? = some (.cells #[.slice (some ⟨gF, 0, none⟩) st.length st.length] 139)
  rF : w.heap[gF]? = some (.cells (st.map fdv).toArray 4)
  hA : w.heap[bA]? = some (.cells #[.slice (some ⟨gA, 0, none⟩) st.length st.length] 138)
  rA : w.heap[gA]? = some (.cells (st.map mv).toArray 114)
  hT : ∃ v, w.heap[bT]? = some (.cells #[v] 34) ∧ w.ownsRow B 3 1 v todo.length (todo.map (Value.int .i64))
  base : B ≤ bF ∧ B ≤ gF ∧ B ≤ bA ∧ B ≤ gA ∧ B ≤ bT
  small : ∀ m, some m ∈ st → m < 65536

/-- blocks below B stand, and the boxes of instructions -/
structure WK (B : Nat) (w w' : World) : Prop where
  os : w'.os = w.os
  tape : w'.tape = w.tape
  output : w'.output = w.output
  size : w.heap.size ≤ w'.heap.size
  block : ∀ b, b < w.heap.size → (b < B ∨ ∃ c f, w.heap[b]? = some (.cells c 84 f)) → w'.heap[b]? = w.heap[b]?

theorem WK.refl (B : Nat) (w : World) : WK B w w := ⟨rfl, rfl, rfl, Nat.le_refl _, fun _ _ _ => rfl⟩
theorem WK.trans {B : Nat} {a b c : World} (h : WK B a b) (k : WK B b c) : WK B a c := by
  refine ⟨k.os.trans h.os, k.tape.trans h.tape, k.output.trans h.output, Nat.le_trans h.size k.size, fun i hi hc => ?_⟩
  have e := h.block i hi hc
  refine (k.block i (Nat.lt_of_lt_of_le hi h.size) ?_).trans e
  rcases hc with h1 | ⟨c, f, h1⟩
  · exact .inl h1
  · exact .inr ⟨c, f, e.trans h1⟩
theorem WK.below {B : Nat} {w w' : World} (h : WK B w w') (hB : B ≤ w.heap.size) : Below B w w' := ⟨h.os, h.tape, h.output, h.size, fun b hb => h.block b (by omega) (.inl hb)⟩
theorem WK.of_below {B : Nat} {w w' : World} (h : Below w.heap.size w w') : WK B w w' := ⟨h.os, h.tape, h.output, h.size, fun b hb _ => h.block b hb⟩
theorem WK.setCell {B : Nat} {w : World} {a : Addr} {c : Array Value} {t : TypeId} {f : Nat × Nat} (hB : B ≤ a.block) (ha : w.heap[a.block]? = some (.cells c t f)) (ht : t ≠ 84) (v : Value) : WK B w (w.setCell a v) := by
  refine ⟨rfl, rfl, rfl, by simp [World.setCell], fun b hb hc => Below.heap_setCell w a v b fun e => ?_⟩
  subst e
  rcases hc with h1 | ⟨c', f', h1⟩
  · omega
  · rw [ha] at h1
    simp at h1
    exact ht h1.2.1
theorem WK.drew {B : Nat} {w w' : World} (h : WK B w w') : WK B w w'.drew := ⟨h.os, h.tape, h.output, h.size, h.block⟩
theorem WK.grown {B base e size n : Nat} {w w' : World} {v : Value} {xs : List Value} (h : w.ownsRow base e size v n xs) (hB : B ≤ base) (he : e ≠ 84) (hg : w.grownBy w' v.ownBlock) : WK B w w' := by
  refine ⟨hg.os, hg.tape, hg.output, hg.size, fun b hb hc => hg.block b hb ?_⟩
  rcases h.2 with ⟨rfl, _⟩ | ⟨g, cap, cur, rfl, hbb, hgg, _⟩
  · simp [Value.ownBlock]
  · simp only [Value.ownBlock, ne_eq, Option.some.injEq]
    rintro rfl
    rcases hc with h1 | ⟨c', f', h1⟩
    · omega
    · rw [hgg] at h1
      simp at h1
      exact he h1.2.1

theorem row_setCell {w : World} {base e size n : Nat} {v : Value} {xs : List Value} (h : w.ownsRow base e size v n xs) {a : Addr} {c : Array Value} {t : TypeId} {f : Nat × Nat} (ha : w.heap[a.block]? = some (.cells c t f)) (ht : t ≠ e) (u : Value) : (w.setCell a u).ownsRow base e size v n xs := by
  refine ⟨h.1, ?_⟩
  rcases h.2 with hn | ⟨g, cap, cur, rfl, hbb, hgg, rest⟩
  · exact .inl hn
  · refine .inr ⟨g, cap, cur, rfl, hbb, ?_, rest⟩
    rw [Below.heap_setCell w a u g fun e' => ?_]
    · exact hgg
    · subst e'
      rw [hgg] at ha
      simp at ha
      exact ht ha.2.1.symm
theorem row_below {base e size n : Nat} {w w' : World} {v : Value} {xs : List Value} (hb : Below w.heap.size w w') (h : w.ownsRow base e size v n xs) : w'.ownsRow base e size v n xs := by
  refine ⟨h.1, ?_⟩
  rcases h.2 with hn | ⟨g, cap, cur, rfl, hbb, hgg, rest⟩
  · exact .inl hn
  · exact .inr ⟨g, cap, cur, rfl, hbb, (hb.block _ (Array.getElem?_eq_some_iff.1 hgg).1).trans hgg, rest⟩

theorem grown_other {w w' : World} {base e size n : Nat} {v : Value} {xs : List Value} (h : w.ownsRow base e size v n xs) (hg : w.grownBy w' v.ownBlock) {b : Nat} {c : Array Value} {t : TypeId} {f : Nat × Nat} (hb : w.heap[b]? = some (.cells c t f)) (ht : t ≠ e) : w'.heap[b]? = some (.cells c t f) := by
  rw [hg.block b (Array.getElem?_eq_some_iff.1 hb).1 ?_]
  · exact hb
  · rcases h.2 with ⟨rfl, _⟩ | ⟨g, cap, cur, rfl, hbb, hgg, _⟩
    · simp [Value.ownBlock]
    · simp only [Value.ownBlock, ne_eq, Option.some.injEq]
      rintro rfl
      rw [hgg] at hb
      simp at hb
      exact ht hb.2.1.symm

/-- how a place is marked -/
def markS (st : Md) (todo : List Int) (pl : Nat) (now : Nat) : Md × List Int :=
  match st[pl]? with
  | some (some m) => if (bits .andNot .u16 (m : Int) (now : Int) == 0) = true then (st, todo) else (st.set pl (some (now &&& m)), todo ++ [(pl : Int)])
  | _ => (st.set pl (some now), todo ++ [(pl : Int)])

section
variable {B bF gF bA gA bT : Nat} {w : World} {st : Md} {todo : List Int}
theorem WAt.next {w' : World} (h : WAt B bF gF bA gA bT w st todo) (hb : Below w.heap.size w w') : WAt B bF gF bA gA bT w' st todo := by
  obtain ⟨v, h1, h2⟩ := h.hT
  have k : ∀ {b : Nat} {o : Obj}, w.heap[b]? = some o → w'.heap[b]? = some o := fun hh => (hb.block _ (Array.getElem?_eq_some_iff.1 hh).1).trans hh
  exact ⟨k h.hF, k h.rF, k h.hA, k h.rA, ⟨v, k h1, row_below hb h2⟩, h.base, h.small⟩

theorem bne {w : World} {a b : Nat} {c c' : Array Value} {t t' : TypeId} {f f' : Nat × Nat} (ha : w.heap[a]? = some (.cells c t f)) (hb : w.heap[b]? = some (.cells c' t' f')) (ht : t ≠ t') : a ≠ b := fun e => by
  subst e
  rw [ha] at hb
  simp at hb
  exact ht hb.2.1

theorem mv_set (st : Md) (i m : Nat) : (st.map mv).toArray.setIfInBounds i (.int .u16 (m : Int)) = ((st.set i (some m)).map mv).toArray := by
  simp [List.map_set, mv]
theorem fdv_set (st : Md) (i m : Nat) : (st.map fdv).toArray.setIfInBounds i (.bool true) = ((st.set i (some m)).map fdv).toArray := by
  simp [List.map_set, fdv]

theorem WAt.put (h : WAt B bF gF bA gA bT w st todo) (pl m : Nat) (hm : m < 65536) :
    WAt B bF gF bA gA bT ((w.setCell ⟨gA, pl, none⟩ (.int .u16 (m : Int))).setCell ⟨gF, pl, none⟩ (.bool true)) (st.set pl (some m)) todo ∧ WK B w ((w.setCell ⟨gA, pl, none⟩ (.int .u16 (m : Int))).setCell ⟨gF, pl, none⟩ (.bool true)) := by
  obtain ⟨v, h1, h2⟩ := h.hT
  have n1 : gF ≠ gA := bne h.rF h.rA (by decide)
  have n3 : bF ≠ gA := bne h.hF h.rA (by decide)
  have n4 : bA ≠ gF := bne h.hA h.rF (by decide)
  have n5 : bF ≠ gF := bne h.hF h.rF (by decide)
  have n6 : bA ≠ gA := bne h.hA h.rA (by decide)
  have n7 : bT ≠ gA := bne h1 h.rA (by decide)
  have n8 : bT ≠ gF := bne h1 h.rF (by decide)
  have old : ∀ b o, b ≠ gA → b ≠ gF → w.heap[b]? = some o → ((w.setCell ⟨gA, pl, none⟩ (.int .u16 (m : Int))).setCell ⟨gF, pl, none⟩ (.bool true)).heap[b]? = some o := fun b o ha hf hh => by
    rw [Below.heap_setCell _ ⟨gF, pl, none⟩ _ b hf, Below.heap_setCell _ ⟨gA, pl, none⟩ _ b ha]
    exact hh
  have rF1 : (w.setCell ⟨gA, pl, none⟩ (.int .u16 (m : Int))).heap[gF]? = some (.cells (st.map fdv).toArray 4) := by
    rw [Below.heap_setCell _ ⟨gA, pl, none⟩ _ gF n1]
    exact h.rF
  refine ⟨⟨?_, ?_, ?_, ?_, ⟨v, old _ _ n7 n8 h1, row_setCell (row_setCell h2 (a := ⟨gA, pl, none⟩) h.rA (by decide) _) (a := ⟨gF, pl, none⟩) rF1 (by decide) _⟩, h.base, ?_⟩, ?_⟩
  · rw [List.length_set]
    exact old _ _ n3 n5 h.hF
  · have := heap_setCell_same (w.setCell ⟨gA, pl, none⟩ (.int .u16 (m : Int))) gF pl _ 4 (.bool true) rF1
    rw [fdv_set st pl m] at this
    exact this
  · rw [List.length_set]
    exact old _ _ n6 n4 h.hA
  · rw [Below.heap_setCell _ ⟨gF, pl, none⟩ _ gA n1.symm]
    have := heap_setCell_same w gA pl _ 114 (.int .u16 (m : Int)) h.rA
    rw [mv_set st pl m] at this
    exact this
  · intro k hk
    rcases List.mem_or_eq_of_mem_set hk with h0 | h0
    · exact h.small k h0
    · cases h0
      exact hm
  · exact (WK.setCell h.base.2.2.2.1 (a := ⟨gA, pl, none⟩) h.rA (by decide) _).trans (WK.setCell h.base.2.1 (a := ⟨gF, pl, none⟩) rF1 (by decide) _)

theorem WAt.drew (h : WAt B bF gF bA gA bT w st todo) : WAt B bF gF bA gA bT w.drew st todo := ⟨h.hF, h.rF, h.hA, h.rA, h.hT, h.base, h.small⟩

/-- a place more is to do -/
theorem WAt.push {w3 : World} {v v' : Value} {o : Obj} (h : WAt B bF gF bA gA bT w st todo) (hv : w.heap[bT]? = some (.cells #[v] 34)) (hown : (w.alloc o).ownsRow B 3 1 v todo.length (todo.map (Value.int .i64))) (pl : Int)
    (h3 : w3.ownsRow B 3 1 v' (todo.length + 1) (todo.map (Value.int .i64) ++ [.int .i64 pl])) (hg : (w.alloc o).grownBy w3 v.ownBlock) :
    WAt B bF gF bA gA bT (w3.setCell ⟨bT, 0, none⟩ v') st (todo ++ [pl]) ∧ WK B w (w3.setCell ⟨bT, 0, none⟩ v') := by
  have k : ∀ {b : Nat} {c : Array Value} {t : TypeId} {f : Nat × Nat}, w.heap[b]? = some (.cells c t f) → t ≠ 3 → w3.heap[b]? = some (.cells c t f) := fun {b c t f} hh ht =>
    grown_other hown hg ((heap_alloc_old _ _ (Array.getElem?_eq_some_iff.1 hh).1).trans hh) ht
  have hT3 := k hv (by decide)
  have n1 : bF ≠ bT := bne h.hF hv (by decide)
  have n2 : gF ≠ bT := bne h.rF hv (by decide)
  have n3 : bA ≠ bT := bne h.hA hv (by decide)
  have n4 : gA ≠ bT := bne h.rA hv (by decide)
  have q : ∀ {b : Nat} {o : Obj}, b ≠ bT → w3.heap[b]? = some o → (w3.setCell ⟨bT, 0, none⟩ v').heap[b]? = some o := fun hb hh => (Below.heap_setCell _ ⟨bT, 0, none⟩ _ _ hb).trans hh
  refine ⟨⟨q n1 (k h.hF (by decide)), q n2 (k h.rF (by decide)), q n3 (k h.hA (by decide)), q n4 (k h.rA (by decide)), ⟨v', ?_, ?_⟩, h.base, h.small⟩, ?_⟩
  · exact heap_setCell_same w3 bT 0 _ 34 v' hT3
  · have := row_setCell h3 (a := ⟨bT, 0, none⟩) hT3 (by decide) v'
    rw [List.length_append, List.map_append]
    exact this
  · exact ((WK.of_below (alloc_below w o)).trans (WK.grown hown (Nat.le_refl _) (by decide) hg)).trans (WK.setCell (a := ⟨bT, 0, none⟩) h.base.2.2.2.2 hT3 (by decide) _)

set_option maxRecDepth 100000 in
set_option maxHeartbeats 2000000 in
theorem mark_any (h : WAt B bF gF bA gA bT w st todo) (pl now : Nat) (hp : pl < st.length) (hnow : now < 65536) (hB : B ≤ w.heap.size) (ht : todo.length ≤ 100000000) :
    Calls Tryd.prog 72 #[.int .i64 pl, .int .u16 now, .pointer (some ⟨bF, 0, none⟩), .pointer (some ⟨bA, 0, none⟩), .pointer (some ⟨bT, 0, none⟩)] w fun e w' =>
      e = .returned (.tuple #[]) ∧ WAt B bF gF bA gA bT w' (markS st todo pl now).1 (markS st todo pl now).2 ∧ WK B w w' := by
  obtain ⟨i3, hi3, hz3, hs3, hb3⟩ := info_parts info3
  have HI := Lib.hid (And.intro hi3 (And.intro hz3 (And.intro hs3 hb3)))
  clear hi3 hz3 hs3 hb3
  obtain ⟨vt, hvt, hown⟩ := h.hT
  have c0 : w.cell? ⟨bF, 0, none⟩ = some (.slice (some ⟨gF, 0, none⟩) st.length st.length) := by simp [World.cell?, h.hF]
  have c1 : w.cell? ⟨bA, 0, none⟩ = some (.slice (some ⟨gA, 0, none⟩) st.length st.length) := by simp [World.cell?, h.hA]
  have c2 : w.cell? ⟨bT, 0, none⟩ = some vt := by simp [World.cell?, hvt]
  obtain ⟨o, ho⟩ : ∃ o, st[pl]? = some o := ⟨_, List.getElem?_eq_getElem hp⟩
  have d0 : w.cell? ⟨gF, pl, none⟩ = some (fdv o) := by simp [World.cell?, h.rF, ho]
  have d1 : w.cell? ⟨gA, pl, none⟩ = some (mv o) := by simp [World.cell?, h.rA, ho]
  have f0 : w.frozen? ⟨gF, pl, none⟩ = false := by simp [World.frozen?, h.rF]
  have f1 : w.frozen? ⟨gA, pl, none⟩ = false := by simp [World.frozen?, h.rA]
  have n1 : gF ≠ gA := bne h.rF h.rA (by decide)
  have n2 : gA ≠ gF := n1.symm
  have n3 : bF ≠ gA := bne h.hF h.rA (by decide)
  have n4 : bA ≠ gF := bne h.hA h.rF (by decide)
  have n5 : gA ≠ bF := n3.symm
  have n6 : gF ≠ bA := n4.symm
  have HO := Lib.hid ho
  clear ho
  have hp' : (pl : Int) < st.length := by omega
  cases o with
  | none =>
    replace d0 : w.cell? ⟨gF, pl, none⟩ = some (.bool false) := d0
    replace d1 : w.cell? ⟨gA, pl, none⟩ = some (.int .u16 0) := d1
    have hS : markS st todo pl now = (st.set pl (some now), todo ++ [(pl : Int)]) := by simp [markS, HO.out]
    rw [hS]
    clear hS
    go_enter Tryd.func72, Tryd.ntmps72
    go_wp2
    go_region
    obtain ⟨h2, k2⟩ := h.put pl now hnow
    replace h2 := h2.drew
    replace k2 := k2.drew
    generalize ((w.setCell ⟨gA, pl, none⟩ (.int .u16 (now : Int))).setCell ⟨gF, pl, none⟩ (.bool true)).drew = w2 at h2 k2 ⊢
    clear c0 c1 c2 d0 d1 f0 f1 hvt hown vt
    obtain ⟨vt, hvt, hown⟩ := h2.hT
    have c2 : w2.cell? ⟨bT, 0, none⟩ = some vt := by simp [World.cell?, hvt]
    have hl2 := World.block_lt_of_cell? w2 _ c2
    replace hown := row_below (alloc_below w2 (.cells #[.int .i64 (pl : Int)] 3)) hown
    have hsz := k2.size
    obtain ⟨hi3, hz3, hs3, hb3⟩ := HI.out
    go_wp2_with (at_builtin; refine wpList_append_own _ rfl (.tmp 37) (.tmp 39) 34 rfl B 3 i3 _ 1 8 Tryd.underlying34 hi3 hz3 hs3 hb3 rfl (by decide) vt todo.length _ rfl hown ⟨w2.heap.size, 0, none⟩ 1 1 [.int .i64 (pl : Int)] rfl rfl ?c1 ?c2 ?c3 ?c4 ?c5 ?_)
    try case c1 => exact new_cells w2 [.int .i64 (pl : Int)] 3 _ rfl
    case c2 => first | rfl | (intro u hu; simp at hu; rcases hu with rfl; rfl)
    case c3 => unfold maxLen; omega
    case c4 => omega
    case c5 => first | omega | (simp; omega)
    intro v' w' hown' hgrow _
    obtain ⟨og, g', cap', rfl, hog⟩ := row_shape hown'
    obtain rfl := hog (by omega)
    obtain ⟨hfin, hkf⟩ := h2.push hvt hown pl hown' hgrow
    have hvt' := grown_other hown hgrow ((heap_alloc_old _ _ (Array.getElem?_eq_some_iff.1 hvt).1).trans hvt) (by decide)
    have c3 : w'.cell? ⟨bT, 0, none⟩ = some vt := by simp [World.cell?, hvt']
    have f3 : w'.frozen? ⟨bT, 0, none⟩ = false := by simp [World.frozen?, hvt']
    clear hown' hgrow hown c2
    go_wp2
    go_end0
    exact ⟨rfl, hfin, k2.trans hkf⟩
  | some m =>
    replace d0 : w.cell? ⟨gF, pl, none⟩ = some (.bool true) := d0
    replace d1 : w.cell? ⟨gA, pl, none⟩ = some (.int .u16 (m : Int)) := d1
    have hm : m < 65536 := h.small m (List.mem_of_getElem? HO.out)
    by_cases hc : (bits .andNot .u16 (m : Int) (now : Int) == 0) = true
    · have hS : markS st todo pl now = (st, todo) := by simp only [markS, HO.out]; rw [if_pos hc]
      rw [hS]
      clear hS
      go_enter Tryd.func72, Tryd.ntmps72
      go_wp2
      go_returns
      exact ⟨rfl, h, WK.refl _ _⟩
    · have hS : markS st todo pl now = (st.set pl (some (now &&& m)), todo ++ [(pl : Int)]) := by simp only [markS, HO.out]; rw [if_neg hc]
      rw [hS]
      have hc' : (bits .andNot .u16 (m : Int) (now : Int) == 0) = false := by simpa using hc
      have ha := and16 now m hnow hm
      have hnm : now &&& m < 65536 := Nat.lt_of_le_of_lt Nat.and_le_left hnow
      clear hS hc
      go_enter Tryd.func72, Tryd.ntmps72
      go_wp2
      go_region
      obtain ⟨h2, k2⟩ := h.put pl (now &&& m) hnm
      replace h2 := h2.drew
      replace k2 := k2.drew
      generalize ((w.setCell ⟨gA, pl, none⟩ (.int .u16 ((now &&& m : Nat) : Int))).setCell ⟨gF, pl, none⟩ (.bool true)).drew = w2 at h2 k2 ⊢
      clear c0 c1 c2 d0 d1 f0 f1 hvt hown vt
      obtain ⟨vt, hvt, hown⟩ := h2.hT
      have c2 : w2.cell? ⟨bT, 0, none⟩ = some vt := by simp [World.cell?, hvt]
      have hl2 := World.block_lt_of_cell? w2 _ c2
      replace hown := row_below (alloc_below w2 (.cells #[.int .i64 (pl : Int)] 3)) hown
      have hsz := k2.size
      obtain ⟨hi3, hz3, hs3, hb3⟩ := HI.out
      go_wp2_with (at_builtin; refine wpList_append_own _ rfl (.tmp 37) (.tmp 39) 34 rfl B 3 i3 _ 1 8 Tryd.underlying34 hi3 hz3 hs3 hb3 rfl (by decide) vt todo.length _ rfl hown ⟨w2.heap.size, 0, none⟩ 1 1 [.int .i64 (pl : Int)] rfl rfl ?e1 ?e2 ?e3 ?e4 ?e5 ?_)
      try case e1 => exact new_cells w2 [.int .i64 (pl : Int)] 3 _ rfl
      case e2 => first | rfl | (intro u hu; simp at hu; rcases hu with rfl; rfl)
      case e3 => unfold maxLen; omega
      case e4 => omega
      case e5 => first | omega | (simp; omega)
      intro v' w' hown' hgrow _
      obtain ⟨og, g', cap', rfl, hog⟩ := row_shape hown'
      obtain rfl := hog (by omega)
      obtain ⟨hfin, hkf⟩ := h2.push hvt hown pl hown' hgrow
      have hvt' := grown_other hown hgrow ((heap_alloc_old _ _ (Array.getElem?_eq_some_iff.1 hvt).1).trans hvt) (by decide)
      have c3 : w'.cell? ⟨bT, 0, none⟩ = some vt := by simp [World.cell?, hvt']
      have f3 : w'.frozen? ⟨bT, 0, none⟩ = false := by simp [World.frozen?, hvt']
      clear hown' hgrow hown c2
      go_wp2
      go_end0
      exact ⟨rfl, hfin, k2.trans hkf⟩
end
end Go.Proofs.YtgpkhdccchpljaaDoor.C

namespace Go.Proofs.YtgpkhdccchpljaaDoor.C
open Go.RowKit

def isB (ks : List Int) (f k : Int) : Bool := below f ks.length && (ks.getD f.toNat 0 == k)

set_option maxHeartbeats 1000000 in
theorem is_any (w : World) (fv cv kv : Value) (ks : List Int) (hI : IntsV w kv ks) (f k : Int) : Calls Tryd.prog 50 #[.agg #[fv, cv, kv], .int .i64 f, .int .i64 k] w fun e w' => e = .returned (.bool (isB ks f k)) ∧ Below w.heap.size w w' := by
  obtain ⟨oa, cap, b, off, rfl, h1, h2, h3, h4⟩ := hI.below (alloc_below w (.cells #[fv, cv, kv] 87))
  cases hb : below f ks.length with
  | false =>
    have HB := Lib.hid hb
    clear hb h4 h3
    go_enter Tryd.func50, Tryd.ntmps50
    go_wp2_with fail
    refine (below_any f _ _).mono ?_
    rintro e w1 ⟨rfl, rfl⟩
    rw [HB.out]
    go_wp2
    go_ret
    exact ⟨by rw [isB, HB.out]; rfl, alloc_below _ _⟩
  | true =>
    have h01 : 0 ≤ f ∧ f < ks.length := by simpa [below] using hb
    have HB := Lib.hid hb
    clear hb
    obtain ⟨j, rfl⟩ : ∃ j : Nat, f = j := ⟨f.toNat, by omega⟩
    obtain ⟨rfl, hlt⟩ := h3 (by omega)
    obtain ⟨z, hz⟩ : ∃ z, ks[j]? = some z := ⟨_, List.getElem?_eq_getElem (by omega)⟩
    have g0 := h4 j z hz
    have HZ := Lib.hid (show isB ks j k = (z == k) by rw [isB, HB.out]; simp [List.getD, hz])
    clear h4 hz h3
    go_enter Tryd.func50, Tryd.ntmps50
    go_wp2_with fail
    refine (below_any j _ _).mono ?_
    rintro e w1 ⟨rfl, rfl⟩
    rw [HB.out]
    go_wp2
    go_ret
    exact ⟨by rw [HZ.out]; rfl, alloc_below _ _⟩

def fitsB (nc : Nat) (ks : List Int) (n f : Int) : Bool :=
  if f = 0 then n == 0 else if f = 1 ∨ f = 2 then below n 16 else if f = 4 then decide (0 ≤ n) else if f = 5 then below n 1048577 else if f = 6 then below n nc else if f = 7 then isB ks n 0 else true

theorem alloc_same (w : World) (o : Obj) (p : Addr) (hp : p.block < w.heap.size) : (w.alloc o).cell? p = w.cell? p := ((Below.refl _ _).alloc (Nat.le_refl _) o).cell hp

set_option maxRecDepth 100000 in
set_option maxHeartbeats 1000000 in
theorem fits_any (w : World) (fv kv : Value) (oac : Option Addr) (nc capc : Nat) (ks : List Int) (hI : IntsV w kv ks) (n f : Int) : Calls Tryd.prog 71 #[.agg #[fv, .slice oac nc capc, kv], .int .i64 n, .int .i64 f] w fun e w' => e = .returned (.bool (fitsB nc ks n f)) ∧ Below w.heap.size w w' := by
  have hI1 := hI.below (alloc_below w (.cells #[fv, .slice oac nc capc, kv] 87))
  replace hI1 := Lib.hid hI1
  have hB := alloc_below w (.cells #[fv, .slice oac nc capc, kv] 87)
  clear hI
  go_enter Tryd.func71, Tryd.ntmps71
  go_wp2_with (first | (go_at_call 49; refine (below_any _ _ _).mono ?_; rintro e w1 ⟨rfl, rfl⟩) | (go_at_call 50; refine (is_any _ _ _ _ ks hI1.out _ _).mono ?_; rintro e w1 ⟨rfl, hb1⟩))
  all_goals go_ret
  all_goals go_light
  all_goals (refine ⟨?_, by first | exact alloc_below _ _ | exact box_below (by assumption)⟩)
  all_goals (show Ending.returned (Value.bool _) = Ending.returned (Value.bool _); congr 2; simp_all [fitsB])
end Go.Proofs.YtgpkhdccchpljaaDoor.C

namespace Go.Proofs.YtgpkhdccchpljaaDoor.C
open Go.RowKit

def labB (lb : Int) (n : Nat) : Bool := if lb = 0 then n == 0 else if lb = 1 then n == 1 else decide (0 < n)
def fldB (nc : Nat) (ks : List Int) (x : In) : Nat → Bool
  | 0 => true
  | 1 => fitsB nc ks x.a (shp x.op).f0
  | 2 => fitsB nc ks x.a (shp x.op).f0 && fitsB nc ks x.b (shp x.op).f1
  | _ => fitsB nc ks x.a (shp x.op).f0 && fitsB nc ks x.b (shp x.op).f1 && fitsB nc ks x.c (shp x.op).f2
def instrB (nc : Nat) (ks : List Int) (k n : Int) (x : In) : Bool := (known x.op && standsB x.op k) && (fldB nc ks x 3 && (x.l.all (fun l => below l n) && labB (shp x.op).lb x.l.length))

theorem nb0 (n : Nat) : ((n : Int) == 0) = (n == 0) := by rw [Bool.eq_iff_iff]; simp only [beq_iff_eq]; omega
theorem nb1 (n : Nat) : ((n : Int) == 1) = (n == 1) := by rw [Bool.eq_iff_iff]; simp only [beq_iff_eq]; omega

set_option maxRecDepth 100000 in
set_option maxHeartbeats 3000000 in
theorem instr_any (w : World) (fv kv lv : Value) (oac : Option Addr) (nc capc : Nat) (ks : List Int) (hI : IntsV w kv ks) (x : In) (hL : IntsV w lv x.l) (k n : Int) (ht : TabAt w) (hl3 : x.l.length ≤ 9000000000000000000) :
    Calls Tryd.prog 52 #[.agg #[fv, .slice oac nc capc, kv], x.val lv, .int .i64 k, .int .i64 n] w fun e w' => e = .returned (.bool (instrB nc ks k n x)) ∧ Below w.heap.size w w' := by
  unfold In.val
  have hts := ht.lt
  have hb2 : Below w.heap.size w ((w.alloc (.cells #[fv, .slice oac nc capc, kv] 87)).alloc (.cells #[.int .i64 x.op, .int .i64 x.a, .int .i64 x.b, .int .i64 x.c, lv] 84)) := (alloc_below _ _).alloc (by simp) _
  replace hb2 := Lib.hid hb2
  cases hk : known x.op with
  | false =>
    have HK := Lib.hid hk
    clear hk
    go_enter Tryd.func52, Tryd.ntmps52
    go_wp2_with fail
    refine (known_any x.op _).mono ?_
    rintro e w1 ⟨rfl, rfl⟩
    rw [HK.out]
    go_wp2
    go_ret
    exact ⟨by rw [instrB, HK.out]; rfl, hb2.out⟩
  | true =>
  cases hs : standsB x.op k with
  | false =>
    have HK := Lib.hid hk
    have HS := Lib.hid hs
    clear hk hs
    go_enter Tryd.func52, Tryd.ntmps52
    go_wp2_with fail
    refine (known_any x.op _).mono ?_
    rintro e w1 ⟨rfl, rfl⟩
    rw [HK.out]
    go_wp2_with fail
    refine (stands_any x.op k _).mono ?_
    rintro e w1 ⟨rfl, rfl⟩
    rw [HS.out]
    go_wp2
    go_ret
    exact ⟨by rw [instrB, HK.out, HS.out]; rfl, hb2.out⟩
  | true =>
  have HI := Lib.hid (show instrB nc ks k n x = (fldB nc ks x 3 && (x.l.all (fun l => below l n) && labB (shp x.op).lb x.l.length)) by rw [instrB, hk, hs]; rfl)
  have HK := Lib.hid hk
  have HS := Lib.hid hs
  have HT := Lib.hid ht
  have HKV := Lib.hid hI
  clear hk hs ht hI
  obtain ⟨oal, capl, bl, offl, rfl, hl1, hl2, hl3', hl4⟩ := hL
  replace hl3' := Lib.hid hl3'
  replace hl4 := Lib.hid hl4
  go_enter Tryd.func52, Tryd.ntmps52
  go_wp2_with fail
  refine (known_any x.op _).mono ?_
  rintro e w1 ⟨rfl, rfl⟩
  rw [HK.out]
  go_wp2_with fail
  refine (stands_any x.op k _).mono ?_
  rintro e w1 ⟨rfl, rfl⟩
  rw [HS.out]
  go_wp2_with fail
  refine (shapeOf_any x.op _ (HT.out.below hb2.out hts)).mono ?_
  rintro e w1 ⟨rfl, hb3⟩
  have hB3 : Below w.heap.size w w1 := hb2.out.trans (hb3.mono hb2.out.size)
  have v0 := (hb3.cell (p := ⟨w.heap.size, 0, none⟩) (by simp; omega)).trans ((alloc_same _ _ _ (by simp)).trans (alloc_cell w #[fv, .slice oac nc capc, kv] 87 0 _ rfl))
  have v1 := (hb3.cell (p := ⟨w.heap.size, 1, none⟩) (by simp; omega)).trans ((alloc_same _ _ _ (by simp)).trans (alloc_cell w #[fv, .slice oac nc capc, kv] 87 1 _ rfl))
  have v2 := (hb3.cell (p := ⟨w.heap.size, 2, none⟩) (by simp; omega)).trans ((alloc_same _ _ _ (by simp)).trans (alloc_cell w #[fv, .slice oac nc capc, kv] 87 2 _ rfl))
  have xc : ∀ j u, (#[.int .i64 x.op, .int .i64 x.a, .int .i64 x.b, .int .i64 x.c, .slice oal x.l.length capl] : Array Value)[j]? = some u → w1.cell? ⟨w.heap.size + 1, j, none⟩ = some u := fun j u hu => by
    have h := alloc_cell (w.alloc (.cells #[fv, .slice oac nc capc, kv] 87)) #[.int .i64 x.op, .int .i64 x.a, .int .i64 x.b, .int .i64 x.c, .slice oal x.l.length capl] 84 j u hu
    rw [show (w.alloc (.cells #[fv, .slice oac nc capc, kv] 87)).heap.size = w.heap.size + 1 by simp] at h
    exact (hb3.cell (p := ⟨w.heap.size + 1, j, none⟩) (by simp)).trans h
  have x0 := xc 0 _ rfl
  have x1 := xc 1 _ rfl
  have x2 := xc 2 _ rfl
  have x3 := xc 3 _ rfl
  have x4 := xc 4 _ rfl
  have hw1 := World.block_lt_of_cell? w1 _ x0
  clear hb3 xc
  unfold Sh.val
  go_wp2_with fail
  refine (fieldsOf_any x (.slice oal x.l.length capl) _).mono ?_
  rintro e w2 ⟨rfl, hb4⟩
  have s0 := box_cell hb4 0 (.int .i64 (shp x.op).f0) rfl
  have s1 := box_cell hb4 1 (.int .i64 (shp x.op).f1) rfl
  have s2 := box_cell hb4 2 (.int .i64 (shp x.op).f2) rfl
  have s3 := box_cell hb4 3 (.int .i64 (shp x.op).lb) rfl
  have hlt2 : w1.heap.size < w2.heap.size := World.block_lt_of_cell? w2 _ s0
  have hb5 := box_below hb4
  replace v0 := (hb5.cell (p := ⟨w.heap.size, 0, none⟩) (by have : w.heap.size + 1 < w1.heap.size := hw1; show w.heap.size < _; omega)).trans v0
  replace v1 := (hb5.cell (p := ⟨w.heap.size, 1, none⟩) (by have : w.heap.size + 1 < w1.heap.size := hw1; show w.heap.size < _; omega)).trans v1
  replace v2 := (hb5.cell (p := ⟨w.heap.size, 2, none⟩) (by have : w.heap.size + 1 < w1.heap.size := hw1; show w.heap.size < _; omega)).trans v2
  replace x4 := (hb5.cell (p := ⟨w.heap.size + 1, 4, none⟩) hw1).trans x4
  have hB4 : Below w.heap.size w w2 := hB3.trans (hb5.mono hB3.size)
  have hx1 : w.heap.size + 1 < w2.heap.size := by have : w.heap.size + 1 < w1.heap.size := hw1; omega
  have hx0 : w.heap.size < w2.heap.size := by omega
  clear hb4 hb5 x0 x1 x2 x3 hB3 hw1
  obtain ⟨bs, hbs⟩ : ∃ bs, bs = w1.heap.size := ⟨_, rfl⟩
  rw [← hbs] at s0 s1 s2 s3 hlt2
  simp only [← hbs]
  clear hbs
  have HKV2 := Lib.hid (HKV.out.below (w' := w2) ⟨hB4.os, hB4.tape, hB4.output, hB4.size, hB4.block⟩)
  have i0 : ∀ w, (Instr.index 135 (.agg #[.int .i64 x.a, .int .i64 x.b, .int .i64 x.c]) (.int .i64 0)).run Tryd.prog w = .ok (.int .i64 x.a) w := fun _ => by kernel_rfl
  have i1 : ∀ w, (Instr.index 135 (.agg #[.int .i64 x.a, .int .i64 x.b, .int .i64 x.c]) (.int .i64 1)).run Tryd.prog w = .ok (.int .i64 x.b) w := fun _ => by kernel_rfl
  have i2 : ∀ w, (Instr.index 135 (.agg #[.int .i64 x.a, .int .i64 x.b, .int .i64 x.c]) (.int .i64 2)).run Tryd.prog w = .ok (.int .i64 x.c) w := fun _ => by kernel_rfl
  go_wp2_with fail
  go_loopw [30] (fun u wr => ∃ j : Nat, j ≤ 3 ∧ u = .int .i64 j ∧ fldB nc ks x j = true ∧ Below w2.heap.size w2 wr) (fun u _ => 3 - (intOf u).toNat)
  case atStart => exact ⟨0, by omega, rfl, rfl, Below.refl _ _⟩
  case round =>
    obtain ⟨j, hj, hi, hfld, hbw⟩ := hrel
    have HFLD := Lib.hid hfld
    clear hfld
    replace s0 := (hbw.cell (p := ⟨bs, 0, none⟩) hlt2).trans s0
    replace s1 := (hbw.cell (p := ⟨bs, 1, none⟩) hlt2).trans s1
    replace s2 := (hbw.cell (p := ⟨bs, 2, none⟩) hlt2).trans s2
    replace s3 := (hbw.cell (p := ⟨bs, 3, none⟩) hlt2).trans s3
    replace v0 := (hbw.cell (p := ⟨w.heap.size, 0, none⟩) hx0).trans v0
    replace v1 := (hbw.cell (p := ⟨w.heap.size, 1, none⟩) hx0).trans v1
    replace v2 := (hbw.cell (p := ⟨w.heap.size, 2, none⟩) hx0).trans v2
    replace x4 := (hbw.cell (p := ⟨w.heap.size + 1, 4, none⟩) hx1).trans x4
    have hsz := hbw.size
    have hj4 : j = 0 ∨ j = 1 ∨ j = 2 ∨ j = 3 := by omega
    rcases hj4 with rfl | rfl | rfl | rfl
    · replace hi : u30 = .int .i64 0 := hi
      subst hi
      cases hfit : fitsB nc ks x.a (shp x.op).f0 with
      | false =>
        have HFIT := Lib.hid hfit
        clear hfit
        go_wp2
        go_still_tail 6, (by kernel_rfl)
        change wpList _ _ _ _ _ wr.drew
        have hbd : Below w2.heap.size w2 wr.drew := hbw.drew
        go_wp2_with fail
        refine (fits_any _ fv kv oac nc capc ks (HKV2.out.below hbd) x.a (shp x.op).f0).mono ?_
        rintro e w3 ⟨rfl, hb6⟩
        rw [HFIT.out]
        go_wp2
        go_returns
        refine ⟨?_, hB4.trans ((hbd.trans (hb6.mono hbd.size)).mono hB4.size)⟩
        rw [HI.out]
        simp [fldB, HFIT.out]
      | true =>
        have HFIT := Lib.hid hfit
        clear hfit
        go_wp2
        go_still_tail 6, (by kernel_rfl)
        change wpList _ _ _ _ _ wr.drew
        have hbd : Below w2.heap.size w2 wr.drew := hbw.drew
        go_wp2_with fail
        refine (fits_any _ fv kv oac nc capc ks (HKV2.out.below hbd) x.a (shp x.op).f0).mono ?_
        rintro e w3 ⟨rfl, hb6⟩
        rw [HFIT.out]
        have hb7 := hbd.trans (hb6.mono hbd.size)
        clear hb6
        go_wp2
        go_roundw
        case rel => exact ⟨1, by omega, by go_num, by exact HFIT.out, hb7⟩
        case measure => simp [intOf]
    · replace hi : u30 = .int .i64 1 := hi
      subst hi
      cases hfit : fitsB nc ks x.b (shp x.op).f1 with
      | false =>
        have HFIT := Lib.hid hfit
        clear hfit
        go_wp2
        go_still_tail 6, (by kernel_rfl)
        change wpList _ _ _ _ _ wr.drew
        have hbd : Below w2.heap.size w2 wr.drew := hbw.drew
        go_wp2_with fail
        refine (fits_any _ fv kv oac nc capc ks (HKV2.out.below hbd) x.b (shp x.op).f1).mono ?_
        rintro e w3 ⟨rfl, hb6⟩
        rw [HFIT.out]
        go_wp2
        go_returns
        refine ⟨?_, hB4.trans ((hbd.trans (hb6.mono hbd.size)).mono hB4.size)⟩
        rw [HI.out]
        simp [fldB, HFIT.out]
      | true =>
        have HFIT := Lib.hid hfit
        clear hfit
        go_wp2
        go_still_tail 6, (by kernel_rfl)
        change wpList _ _ _ _ _ wr.drew
        have hbd : Below w2.heap.size w2 wr.drew := hbw.drew
        go_wp2_with fail
        refine (fits_any _ fv kv oac nc capc ks (HKV2.out.below hbd) x.b (shp x.op).f1).mono ?_
        rintro e w3 ⟨rfl, hb6⟩
        rw [HFIT.out]
        have hb7 := hbd.trans (hb6.mono hbd.size)
        clear hb6
        go_wp2
        go_roundw
        case rel => exact ⟨2, by omega, by go_num, by have h1 := HFLD.out; simp only [fldB] at h1 ⊢; rw [HFIT.out, Bool.and_true]; exact h1, hb7⟩
        case measure => simp [intOf]
    · replace hi : u30 = .int .i64 2 := hi
      subst hi
      cases hfit : fitsB nc ks x.c (shp x.op).f2 with
      | false =>
        have HFIT := Lib.hid hfit
        clear hfit
        go_wp2
        go_still_tail 6, (by kernel_rfl)
        change wpList _ _ _ _ _ wr.drew
        have hbd : Below w2.heap.size w2 wr.drew := hbw.drew
        go_wp2_with fail
        refine (fits_any _ fv kv oac nc capc ks (HKV2.out.below hbd) x.c (shp x.op).f2).mono ?_
        rintro e w3 ⟨rfl, hb6⟩
        rw [HFIT.out]
        go_wp2
        go_returns
        refine ⟨?_, hB4.trans ((hbd.trans (hb6.mono hbd.size)).mono hB4.size)⟩
        rw [HI.out]
        simp [fldB, HFIT.out]
      | true =>
        have HFIT := Lib.hid hfit
        clear hfit
        go_wp2
        go_still_tail 6, (by kernel_rfl)
        change wpList _ _ _ _ _ wr.drew
        have hbd : Below w2.heap.size w2 wr.drew := hbw.drew
        go_wp2_with fail
        refine (fits_any _ fv kv oac nc capc ks (HKV2.out.below hbd) x.c (shp x.op).f2).mono ?_
        rintro e w3 ⟨rfl, hb6⟩
        rw [HFIT.out]
        have hb7 := hbd.trans (hb6.mono hbd.size)
        clear hb6
        go_wp2
        go_roundw
        case rel => exact ⟨3, by omega, by go_num, by have h1 := HFLD.out; simp only [fldB] at h1 ⊢; rw [HFIT.out, Bool.and_true]; exact h1, hb7⟩
        case measure => simp [intOf]
    · replace hi : u30 = .int .i64 3 := hi
      subst hi
      have hBr : Below w.heap.size w wr := hB4.trans (hbw.mono hB4.size)
      replace hBr := Lib.hid hBr
      clear hB4
      go_wp2_with fail
      go_loop [46] (fun u => ∃ j : Nat, j ≤ x.l.length ∧ u = .int .i64 j ∧ ∀ l ∈ x.l.take j, below l n = true) (fun u => x.l.length - (intOf u).toNat)
      case atStart => exact ⟨0, by omega, rfl, fun l hl => by simp at hl⟩
      case round =>
        obtain ⟨j, hj, rfl, hso⟩ := hrel
        have HSO := Lib.hid hso
        clear hso
        by_cases hjl : j < x.l.length
        · have t1 : decide ((j : Int) < x.l.length) = true := by simpa using hjl
          obtain ⟨rfl, hbl⟩ := hl3'.out (by omega)
          obtain ⟨lz, hlz⟩ : ∃ lz, x.l[j]? = some lz := ⟨_, List.getElem?_eq_getElem hjl⟩
          have g5 := (hBr.out.cell (p := ⟨bl, offl + j, none⟩) hbl).trans (hl4.out j _ hlz)
          have HIN := Lib.hid (List.mem_of_getElem? hlz)
          have HTK := Lib.hid (take_snoc x.l j _ hlz)
          clear hlz
          cases hbe : below lz n with
          | false =>
            have HBE := Lib.hid hbe
            clear hbe
            go_wp2_with fail
            refine (below_any lz n _).mono ?_
            rintro e w5 ⟨rfl, rfl⟩
            rw [HBE.out]
            go_wp2
            go_returns
            refine ⟨?_, hBr.out⟩
            have : (x.l.all fun l => below l n) = false := by
              rw [List.all_eq_false]
              exact ⟨lz, HIN.out, by simp [HBE.out]⟩
            rw [HI.out, this]
            simp
          | true =>
            have HBE := Lib.hid hbe
            clear hbe
            go_wp2_with fail
            refine (below_any lz n _).mono ?_
            rintro e w5 ⟨rfl, rfl⟩
            rw [HBE.out]
            go_wp2
            go_round
            case rel =>
              refine ⟨j + 1, by omega, by go_num, fun l hl => ?_⟩
              rw [HTK.out] at hl
              rcases List.mem_append.1 hl with h | h
              · exact HSO.out l h
              · simp at h; rw [h]; exact HBE.out
            case measure => simp [intOf]; omega
        · have t1 : decide ((j : Int) < x.l.length) = false := by simpa using hjl
          obtain rfl : j = x.l.length := by omega
          have hall : (x.l.all fun l => below l n) = true := by
            rw [List.all_eq_true]
            intro l hl
            exact HSO.out l (by rw [List.take_length]; exact hl)
          have HRES := Lib.hid (show instrB nc ks k n x = labB (shp x.op).lb x.l.length by rw [HI.out, HFLD.out, hall]; rfl)
          clear hall
          generalize (shp x.op).lb = lb at s3 HRES ⊢
          generalize x.l.length = len at x4 HRES hl3 ⊢
          go_wp2
          all_goals go_returns
          all_goals refine ⟨?_, hBr.out⟩
          all_goals rw [HRES.out]
          all_goals go_light
          all_goals (show Ending.returned (Value.bool _) = Ending.returned (Value.bool _); congr 1)
          all_goals (simp_all [labB, nb0, nb1]; done)
end Go.Proofs.YtgpkhdccchpljaaDoor.C

namespace Go.Proofs.YtgpkhdccchpljaaDoor.C
open Go.RowKit

/-- where an instruction at i goes on -/
def goes (x : In) (i j : Nat) : Prop := (j : Int) ∈ x.l ∨ (fallsB x.op = true ∧ j = i + 1)

/-- there is a way to a place on which register r is never written -/
inductive Un (f : List In) (z : Nat → Bool) (r : Nat) : Nat → Prop
  | start : z r = false → Un f z r 0
  | step {i j : Nat} {x : In} : Un f z r i → f[i]? = some x → writesO x ≠ some (r : Int) → goes x i j → Un f z r j

/-- each register is written ahead of where it is read, on all ways -/
def Ahead (f : List In) (z : Nat → Bool) : Prop := ∀ (i : Nat) (x : In) (r : Nat), f[i]? = some x → ((r : Nat) : Int) ∈ readsL x → ¬ Un f z r i

/-- registers and labels are such -/
structure Fit (f : List In) : Prop where
  reads : ∀ (i : Nat) (x : In), f[i]? = some x → ∀ n, n ∈ readsL x → 0 ≤ n ∧ n < 16
  writes : ∀ (i : Nat) (x : In), f[i]? = some x → ∀ n, writesO x = some n → 0 ≤ n ∧ n < 16
  labels : ∀ (i : Nat) (x : In), f[i]? = some x → ∀ n, n ∈ x.l → 0 ≤ n ∧ n < f.length
  last : ∀ (i : Nat) (x : In), f[i]? = some x → fallsB x.op = true → i + 1 < f.length

theorem Fit.goes {f : List In} (h : Fit f) {i j : Nat} {x : In} (hx : f[i]? = some x) (hg : goes x i j) : j < f.length := by
  rcases hg with h1 | ⟨h1, rfl⟩
  · have := h.labels i x hx _ h1; omega
  · exact h.last i x hx h1

def cnt (m : Nat) : Nat := (List.range 16).countP fun r => m.testBit r
def wt : Option Nat → Nat
  | none => 17
  | some m => cnt m
def phi (st : Md) : Nat := (st.map wt).sum
def mu (st : Md) (todo : List Int) : Nat := 2 * phi st + todo.length

theorem cnt_le (m : Nat) : cnt m ≤ 16 := Nat.le_trans List.countP_le_length (by simp)
theorem countP_lt {α : Type} (p q : α → Bool) : ∀ l : List α, (∀ x ∈ l, q x = true → p x = true) → (∃ x ∈ l, p x = true ∧ q x = false) → l.countP q < l.countP p
  | [], _, h => by obtain ⟨x, hx, _⟩ := h; simp at hx
  | a :: l, h1, h2 => by
    have hl : l.countP q ≤ l.countP p := List.countP_mono_left fun x hx => h1 x (by simp [hx])
    simp only [List.countP_cons]
    obtain ⟨x, hx, hp, hq⟩ := h2
    rcases List.mem_cons.1 hx with rfl | hx
    · simp [hp, hq]; omega
    · have := countP_lt p q l (fun y hy => h1 y (by simp [hy])) ⟨x, hx, hp, hq⟩
      have h3 := h1 a (by simp)
      cases ha : q a with
      | false => simp; omega
      | true => simp [h3 ha]; omega
theorem cnt_and {now m : Nat} {r : Nat} (hr : r < 16) (h1 : m.testBit r = true) (h2 : now.testBit r = false) : cnt (now &&& m) < cnt m := by
  refine countP_lt _ _ _ (fun x _ h => ?_) ⟨r, by simp [hr], h1, by simp [h2]⟩
  simp at h
  exact h.2
theorem phi_set : ∀ (st : Md) (i : Nat) (o o' : Option Nat), st[i]? = some o → phi (st.set i o') + wt o = phi st + wt o'
  | [], _, _, _, h => by simp at h
  | a :: st, 0, o, o', h => by
    simp at h; subst h
    simp [phi]; omega
  | a :: st, i + 1, o, o', h => by
    have := phi_set st i o o' (by simpa using h)
    simp only [phi, List.set_cons_succ, List.map_cons, List.sum_cons] at this ⊢
    omega

/-- what holds whenever a place is taken -/
structure Inv0 (f : List In) (z : Nat → Bool) (st : Md) (todo : List Int) : Prop where
  len : st.length = f.length
  small : ∀ m, some m ∈ st → m < 65536
  tod : ∀ p ∈ todo, ∃ (i m : Nat), p = i ∧ st[i]? = some (some m)
  zero : ∃ m : Nat, st[0]? = some (some m) ∧ ∀ r, r < 16 → m.testBit r = true → z r = true
  sound : ∀ (i m r : Nat), st[i]? = some (some m) → r < 16 → m.testBit r = false → Un f z r i

def Flown (st : Md) (x : In) (i m : Nat) : Prop := ∀ j, goes x i j → ∃ m' : Nat, st[j]? = some (some m') ∧ ∀ r, r < 16 → m'.testBit r = true → m.testBit r = true ∨ writesO x = some (r : Int)
def Done (f : List In) (st : Md) (todo : List Int) (k : Nat) : Prop := ∀ (m : Nat) (x : In), st[k]? = some (some m) → (k : Int) ∉ todo → f[k]? = some x → (∀ r : Nat, (r : Int) ∈ readsL x → m.testBit r = true) ∧ Flown st x k m

structure Inv (f : List In) (z : Nat → Bool) (st : Md) (todo : List Int) : Prop where
  base : Inv0 f z st todo
  done : ∀ k, Done f st todo k

/-- .. while the places that i goes on with are marked -/
structure Mid (f : List In) (z : Nat → Bool) (st : Md) (todo : List Int) (i A now : Nat) (x : In) (dn : Nat → Prop) : Prop where
  base : Inv0 f z st todo
  done : ∀ k, k ≠ i → Done f st todo k
  at_ : f[i]? = some x
  reads : ∀ r : Nat, (r : Int) ∈ readsL x → A.testBit r = true
  nowlt : now < 65536
  nows : ∀ r, r < 16 → (now.testBit r = true ↔ A.testBit r = true ∨ writesO x = some (r : Int))
  un : ∀ r, r < 16 → now.testBit r = false → ∀ j, goes x i j → Un f z r j
  me : (i : Int) ∈ todo ∨ (st[i]? = some (some A) ∧ ∀ j, dn j → ∃ m' : Nat, st[j]? = some (some m') ∧ ∀ r, r < 16 → m'.testBit r = true → now.testBit r = true)

theorem markS_mu (st : Md) (todo : List Int) (pl now : Nat) (hp : pl < st.length) (hs : ∀ m, some m ∈ st → m < 65536) (hn : now < 65536) : mu (markS st todo pl now).1 (markS st todo pl now).2 ≤ mu st todo := by
  obtain ⟨o, ho⟩ : ∃ o, st[pl]? = some o := ⟨_, List.getElem?_eq_getElem hp⟩
  cases o with
  | none =>
    have := phi_set st pl none (some now) ho
    have h2 := cnt_le now
    simp only [markS, ho, mu, List.length_append, List.length_singleton]
    simp only [wt] at this
    omega
  | some m =>
    have hm := hs m (List.mem_of_getElem? ho)
    simp only [markS, ho]
    split
    · exact Nat.le_refl _
    · rename_i hc
      rw [andNot16 m now hm hn] at hc
      simp only [Classical.not_forall] at hc
      obtain ⟨r, h1, h2⟩ := hc
      have hr : r < 16 := by
        by_cases hr : r < 16
        · exact hr
        · exfalso
          have : m.testBit r = false := Nat.testBit_lt_two_pow (Nat.lt_of_lt_of_le hm (by simpa using Nat.pow_le_pow_right (show 0 < 2 by decide) (show 16 ≤ r by omega)))
          rw [this] at h1; cases h1
      have h3 := cnt_and (now := now) hr h1 (by simpa using h2)
      have := phi_set st pl (some m) (some (now &&& m)) ho
      simp only [mu, List.length_append, List.length_singleton]
      simp only [wt] at this
      omega

/-- what marking a place leaves: as it was, or less and to do -/
theorem markS_cases (st : Md) (todo : List Int) (j now : Nat) (hp : j < st.length) (hs : ∀ m, some m ∈ st → m < 65536) (hn : now < 65536) :
    (∃ m : Nat, st[j]? = some (some m) ∧ (∀ r : Nat, m.testBit r = true → now.testBit r = true) ∧ markS st todo j now = (st, todo)) ∨
    (∃ m1 : Nat, m1 < 65536 ∧ markS st todo j now = (st.set j (some m1), todo ++ [(j : Int)]) ∧ (∀ r : Nat, m1.testBit r = true → now.testBit r = true) ∧
      (∀ m : Nat, st[j]? = some (some m) → ∀ r : Nat, m1.testBit r = true → m.testBit r = true) ∧ ∀ r : Nat, m1.testBit r = false → now.testBit r = false ∨ ∃ m : Nat, st[j]? = some (some m) ∧ m.testBit r = false) := by
  obtain ⟨o, ho⟩ : ∃ o, st[j]? = some o := ⟨_, List.getElem?_eq_getElem hp⟩
  cases o with
  | none => exact .inr ⟨now, hn, by simp [markS, ho], fun r h => h, fun (m : Nat) hm => (by rw [ho] at hm; cases hm), fun r h => .inl h⟩
  | some m =>
    have hm := hs m (List.mem_of_getElem? ho)
    by_cases hc : (bits .andNot .u16 (m : Int) (now : Int) == 0) = true
    · exact .inl ⟨m, ho, (andNot16 m now hm hn).1 hc, by simp only [markS, ho]; rw [if_pos hc]⟩
    · refine .inr ⟨now &&& m, Nat.lt_of_le_of_lt Nat.and_le_left hn, by simp only [markS, ho]; rw [if_neg hc], fun r h => by simp at h; exact h.1, fun m' hm' r h => ?_, fun r h => ?_⟩
      · rw [ho] at hm'; cases hm'
        simp at h; exact h.2
      · rw [Nat.testBit_and] at h
        cases hh : now.testBit r with
        | false => exact .inl rfl
        | true => rw [hh] at h; exact .inr ⟨m, ho, by simpa using h⟩

theorem get_set {st : Md} {j k m1 : Nat} {o : Option Nat} (h : (st.set j (some m1))[k]? = some o) : (k = j ∧ o = some m1) ∨ (k ≠ j ∧ st[k]? = some o) := by
  rw [List.getElem?_set] at h
  split at h
  · rename_i e
    split at h
    · cases h; exact .inl ⟨e.symm, rfl⟩
    · cases h
  · rename_i e
    exact .inr ⟨fun h => e h.symm, h⟩
theorem set_get {st : Md} {j m1 : Nat} (hj : j < st.length) : (st.set j (some m1))[j]? = some (some m1) := by simp [hj]
theorem set_ne {st : Md} {j k m1 : Nat} (h : k ≠ j) : (st.set j (some m1))[k]? = st[k]? := by rw [List.getElem?_set, if_neg (fun e => h e.symm)]

theorem Mid.mark {f : List In} {z : Nat → Bool} {st : Md} {todo : List Int} {i A now : Nat} {x : In} {dn : Nat → Prop} (M : Mid f z st todo i A now x dn) (hF : Fit f) (j : Nat) (hg : goes x i j) :
    Mid f z (markS st todo j now).1 (markS st todo j now).2 i A now x fun k => dn k ∨ k = j := by
  have hjl : j < st.length := by rw [M.base.len]; exact hF.goes M.at_ hg
  rcases markS_cases st todo j now hjl M.base.small M.nowlt with ⟨m, hm, hle, e⟩ | ⟨m1, hm1, e, hnow, hold, hfalse⟩
  · rw [e]
    refine ⟨M.base, M.done, M.at_, M.reads, M.nowlt, M.nows, M.un, ?_⟩
    rcases M.me with h | ⟨h1, h2⟩
    · exact .inl h
    · refine .inr ⟨h1, fun k hk => ?_⟩
      rcases hk with hk | rfl
      · exact h2 k hk
      · exact ⟨m, hm, fun r _ h => hle r h⟩
  · rw [e]
    -- what a place is now, against before
    have less : ∀ (k m' : Nat), st[k]? = some (some m') → ∃ m'' : Nat, (st.set j (some m1))[k]? = some (some m'') ∧ ∀ r, m''.testBit r = true → m'.testBit r = true := fun k m' hk => by
      by_cases ek : k = j
      · subst ek
        exact ⟨m1, set_get hjl, fun r h => hold m' hk r h⟩
      · exact ⟨m', (set_ne ek).trans hk, fun r h => h⟩
    refine ⟨⟨?_, ?_, ?_, ?_, ?_⟩, ?_, M.at_, M.reads, M.nowlt, M.nows, M.un, ?_⟩
    · rw [List.length_set]; exact M.base.len
    · intro m hm
      rcases List.mem_or_eq_of_mem_set hm with h | h
      · exact M.base.small m h
      · cases h; exact hm1
    · intro p hp
      rcases List.mem_append.1 hp with h | h
      · obtain ⟨k, m, h1, h2⟩ := M.base.tod p h
        obtain ⟨m'', h3, _⟩ := less k m h2
        exact ⟨k, m'', h1, h3⟩
      · simp at h
        exact ⟨j, m1, h, set_get hjl⟩
    · obtain ⟨m, h1, h2⟩ := M.base.zero
      obtain ⟨m'', h3, h4⟩ := less 0 m h1
      exact ⟨m'', h3, fun r hr h => h2 r hr (h4 r h)⟩
    · intro k m r hk hr hb
      rcases get_set hk with ⟨rfl, h⟩ | ⟨h1, h2⟩
      · cases h
        rcases hfalse r hb with h | ⟨m, h1, h2⟩
        · exact M.un r hr h _ hg
        · exact M.base.sound _ m r h1 hr h2
      · exact M.base.sound k m r h2 hr hb
    · intro k hki m y hk hnt hy
      have hkj : k ≠ j := fun e => hnt (by simp [e])
      have hk0 : st[k]? = some (some m) := by rw [← hk, set_ne hkj]
      obtain ⟨h1, h2⟩ := M.done k hki m y hk0 (fun h => hnt (by simp [h])) hy
      refine ⟨h1, fun t ht => ?_⟩
      obtain ⟨m', h3, h4⟩ := h2 t ht
      obtain ⟨m'', h5, h6⟩ := less t m' h3
      exact ⟨m'', h5, fun r hr h => h4 r hr (h6 r h)⟩
    · by_cases eij : i = j
      · exact .inl (by simp [eij])
      · rcases M.me with h | ⟨h1, h2⟩
        · exact .inl (by simp [h])
        · refine .inr ⟨(set_ne eij).trans h1, fun k hk => ?_⟩
          by_cases ek : k = j
          · subst ek
            exact ⟨m1, set_get hjl, fun r _ h => hnow r h⟩
          · rcases hk with hk | hk
            · obtain ⟨m', h3, h4⟩ := h2 k hk
              exact ⟨m', (set_ne ek).trans h3, h4⟩
            · exact absurd hk ek

theorem Mid.fin {f : List In} {z : Nat → Bool} {st : Md} {todo : List Int} {i A now : Nat} {x : In} {dn : Nat → Prop} (M : Mid f z st todo i A now x dn) (hd : ∀ j, goes x i j → dn j) : Inv f z st todo := by
  refine ⟨M.base, fun k => ?_⟩
  by_cases hk : k = i
  · subst hk
    intro m y hm hnt hy
    rw [M.at_] at hy
    cases hy
    rcases M.me with h | ⟨h1, h2⟩
    · exact absurd h hnt
    · rw [h1] at hm
      cases hm
      refine ⟨M.reads, fun j hj => ?_⟩
      obtain ⟨m', h3, h4⟩ := h2 j (hd j hj)
      exact ⟨m', h3, fun r hr h => (M.nows r hr).1 (h4 r hr h)⟩
  · exact M.done k hk

theorem Inv.pop {f : List In} {z : Nat → Bool} {st : Md} {todo : List Int} {i A now : Nat} {x : In} (h : Inv f z st (todo ++ [(i : Int)])) (hi : st[i]? = some (some A)) (hx : f[i]? = some x) (hr : ∀ r : Nat, (r : Int) ∈ readsL x → A.testBit r = true)
    (hlt : now < 65536) (hn : ∀ r, r < 16 → (now.testBit r = true ↔ A.testBit r = true ∨ writesO x = some (r : Int))) : Mid f z st todo i A now x fun _ => False := by
  refine ⟨⟨h.base.len, h.base.small, fun p hp => h.base.tod p (by simp [hp]), h.base.zero, h.base.sound⟩, fun k hk m y hm hnt hy => h.done k m y hm (by simp [hnt]; omega) hy, hx, hr, hlt, hn, fun r hr' hb j hg => ?_, .inr ⟨hi, fun j hj => hj.elim⟩⟩
  have h1 : A.testBit r = false ∧ writesO x ≠ some (r : Int) := by
    have := mt (hn r hr').2 (by simp [hb])
    constructor
    · cases hA : A.testBit r with
      | false => rfl
      | true => exact absurd (.inl hA) this
    · exact fun e => this (.inr e)
  exact .step (h.base.sound i A r hi hr' h1.1) hx h1.2 hg

theorem Inv.ahead {f : List In} {z : Nat → Bool} {st : Md} (h : Inv f z st []) (hF : Fit f) : Ahead f z := by
  have key : ∀ r : Nat, r < 16 → ∀ i, Un f z r i → ∃ m, st[i]? = some (some m) ∧ m.testBit r = false := fun r hr i hu => by
    induction hu with
    | start hz =>
      obtain ⟨m, h1, h2⟩ := h.base.zero
      refine ⟨m, h1, ?_⟩
      cases hb : m.testBit r with
      | false => rfl
      | true => rw [h2 r hr hb] at hz; cases hz
    | step hu hx hw hg ih =>
      obtain ⟨m, h1, h2⟩ := ih
      obtain ⟨_, h4⟩ := h.done _ m _ h1 (by simp) hx
      obtain ⟨m', h5, h6⟩ := h4 _ hg
      refine ⟨m', h5, ?_⟩
      cases hb : m'.testBit r with
      | false => rfl
      | true =>
        rcases h6 r hr hb with h | h
        · rw [h2] at h; cases h
        · exact absurd h hw
  intro i x r hx hr hu
  have hr16 : r < 16 := by have := hF.reads i x hx _ hr; omega
  obtain ⟨m, h1, h2⟩ := key r hr16 i hu
  have := (h.done i m x h1 (by simp) hx).1 r hr
  rw [h2] at this
  cases this

theorem Inv.not_ahead {f : List In} {z : Nat → Bool} {st : Md} {todo : List Int} {i A r : Nat} {x : In} (h : Inv0 f z st todo) (hi : st[i]? = some (some A)) (hx : f[i]? = some x) (hr : (r : Int) ∈ readsL x) (hr16 : r < 16) (hb : A.testBit r = false) : ¬ Ahead f z := fun hA =>
  hA i x r hx hr (h.sound i A r hi hr16 hb)

/-- the beginning -/
theorem Inv.first (f : List In) (z : Nat) (hz : z < 65536) (hf : 0 < f.length) : Inv f z.testBit (markS (List.replicate f.length none) [] 0 z).1 (markS (List.replicate f.length none) [] 0 z).2 := by
  have h0 : (List.replicate f.length (none : Option Nat))[0]? = some none := by simp [hf]
  have e : markS (List.replicate f.length none) [] 0 z = ((List.replicate f.length none).set 0 (some z), [0]) := by simp [markS, h0]
  rw [e]
  have only : ∀ (k m : Nat), ((List.replicate f.length (none : Option Nat)).set 0 (some z))[k]? = some (some m) → k = 0 ∧ m = z := fun k m hk => by
    rcases get_set hk with ⟨h1, h2⟩ | ⟨_, h2⟩
    · cases h2; exact ⟨h1, rfl⟩
    · simp [List.getElem?_replicate] at h2
  refine ⟨⟨by simp, ?_, ?_, ⟨z, set_get (by simpa using hf), fun r _ h => h⟩, fun i m r hi _ hb => ?_⟩, fun k m x hk hnt _ => ?_⟩
  · intro m hm
    rcases List.mem_or_eq_of_mem_set hm with h | h
    · simp [List.mem_replicate] at h
    · cases h; exact hz
  · intro p hp
    simp at hp
    exact ⟨0, z, by simpa using hp, set_get (by simpa using hf)⟩
  · obtain ⟨rfl, rfl⟩ := only i m hi
    exact .start hb
  · obtain ⟨rfl, rfl⟩ := only k m hk
    exact absurd (by simp) hnt

theorem mu_first (f : List In) (z : Nat) (hz : z < 65536) (hf : 0 < f.length) : mu (markS (List.replicate f.length none) [] 0 z).1 (markS (List.replicate f.length none) [] 0 z).2 ≤ 34 * f.length := by
  refine Nat.le_trans (markS_mu _ _ 0 z (by simpa using hf) (fun m hm => by simp [List.mem_replicate] at hm) hz) ?_
  simp [mu, phi, wt]
  omega
end Go.Proofs.YtgpkhdccchpljaaDoor.C

namespace Go.Proofs.YtgpkhdccchpljaaDoor.C
open Go.RowKit

section
variable {B bF gF bA gA bT : Nat} {w : World} {st : Md} {todo : List Int}
theorem WAt.pop {i : Int} (h : WAt B bF gF bA gA bT w st (todo ++ [i])) : ∃ g cap, w.heap[bT]? = some (.cells #[.slice (some ⟨g, 0, none⟩) (todo.length + 1) cap] 34) ∧ todo.length + 1 ≤ cap ∧ cap ≤ maxLen ∧
    w.cell? ⟨g, todo.length, none⟩ = some (.int .i64 i) ∧ WAt B bF gF bA gA bT (w.setCell ⟨bT, 0, none⟩ (.slice (some ⟨g, 0, none⟩) todo.length cap)) st todo ∧ WK B w (w.setCell ⟨bT, 0, none⟩ (.slice (some ⟨g, 0, none⟩) todo.length cap)) := by
  obtain ⟨v, hv, hown⟩ := h.hT
  rw [List.length_append, List.length_singleton, List.map_append, List.map_singleton] at hown
  rcases hown.2 with ⟨_, h0⟩ | ⟨g, cap, cur, rfl, hb, hg, hn, hm, hs, ht⟩
  · omega
  have hcell : cur.toList[todo.length]? = some (.int .i64 i) := by
    have : (cur.toList.take ((todo.length + 1) * 1))[todo.length]? = some (.int .i64 i) := by rw [ht]; simp
    rwa [List.getElem?_take_of_lt (by omega)] at this
  have hpre : cur.toList.take (todo.length * 1) = todo.map (Value.int .i64) := by
    have : (cur.toList.take ((todo.length + 1) * 1)).take todo.length = todo.map (Value.int .i64) := by rw [ht, List.take_append_of_le_length (by simp)]; exact List.take_of_length_le (by simp)
    rw [List.take_take, Nat.min_eq_left (by omega)] at this
    simpa using this
  have n1 : bF ≠ bT := bne h.hF hv (by decide)
  have n2 : gF ≠ bT := bne h.rF hv (by decide)
  have n3 : bA ≠ bT := bne h.hA hv (by decide)
  have n4 : gA ≠ bT := bne h.rA hv (by decide)
  have n5 : g ≠ bT := bne hg hv (by decide)
  have q : ∀ {b : Nat} {o : Obj}, b ≠ bT → w.heap[b]? = some o → (w.setCell ⟨bT, 0, none⟩ (.slice (some ⟨g, 0, none⟩) todo.length cap)).heap[b]? = some o := fun hb hh => (Below.heap_setCell _ ⟨bT, 0, none⟩ _ _ hb).trans hh
  refine ⟨g, cap, hv, hn, hm, ?_, ⟨q n1 h.hF, q n2 h.rF, q n3 h.hA, q n4 h.rA, ⟨_, heap_setCell_same w bT 0 _ 34 _ hv, ?_⟩, h.base, h.small⟩, WK.setCell (a := ⟨bT, 0, none⟩) h.base.2.2.2.2 hv (by decide) _⟩
  · simp only [World.cell?, hg]
    simpa using hcell
  · exact ⟨by simp, .inr ⟨g, cap, cur, rfl, hb, q n5 hg, by omega, hm, hs, hpre⟩⟩

theorem WAt.empty (h : WAt B bF gF bA gA bT w st []) : ∃ oa cap, w.heap[bT]? = some (.cells #[.slice oa 0 cap] 34) := by
  obtain ⟨v, hv, hown⟩ := h.hT
  obtain ⟨og, g, cap, rfl, _⟩ := row_shape hown
  exact ⟨og, cap, hv⟩
end

theorem info71 : (Tryd.prog.info? 114).map (fun i => (i.zero, i.size, i.bytes)) = some (some (.int .u16 0), 1, 2) := by kernel_rfl
theorem info4 : (Tryd.prog.info? 4).map (fun i => (i.zero, i.size, i.bytes)) = some (some (.bool false), 1, 1) := by kernel_rfl
theorem make_masks (n : Nat) (h : n ≤ 65536) (w : World) : (Instr.makeSlice 138 (.int .i64 (n : Int)) (.int .i64 (n : Int))).run Tryd.prog w = .ok (.slice (some ⟨w.heap.size, 0, none⟩) n n) (w.alloc (.cells (Array.replicate n (mv none)) 114)) := by
  rw [run_make_row' 138 114 (.int .u16 0) 2 Tryd.underlying138 info71 rfl .i64 .i64 n (by omega) (by omega) w, made_one]
  simp [mv]
theorem make_found (n : Nat) (h : n ≤ 65536) (w : World) : (Instr.makeSlice 139 (.int .i64 (n : Int)) (.int .i64 (n : Int))).run Tryd.prog w = .ok (.slice (some ⟨w.heap.size, 0, none⟩) n n) (w.alloc (.cells (Array.replicate n (fdv none)) 4)) := by
  rw [run_make_row' 139 4 (.bool false) 1 Tryd.underlying139 info4 rfl .i64 .i64 n (by omega) (by omega) w, made_one]
  simp [fdv]

def W5 (w : World) (n : Nat) : World := ((((w.alloc (.cells (Array.replicate n (mv none)) 114)).alloc (.cells #[.slice (some ⟨w.heap.size, 0, none⟩) n n] 138)).alloc (.cells (Array.replicate n (fdv none)) 4)).alloc (.cells #[.slice (some ⟨w.heap.size + 1 + 1, 0, none⟩) n n] 139)).alloc (.cells #[.slice none 0 0] 34)

theorem WAt.new (w : World) (n : Nat) : WAt w.heap.size (w.heap.size + 1 + 1 + 1) (w.heap.size + 1 + 1) (w.heap.size + 1) w.heap.size (w.heap.size + 1 + 1 + 1 + 1) (W5 w n) (List.replicate n none) [] ∧ Below w.heap.size w (W5 w n) := by
  have sz : ∀ (w : World) (o : Obj), (w.alloc o).heap.size = w.heap.size + 1 := fun w o => by simp
  have e1 : ((List.replicate n (none : Option Nat)).map mv).toArray = Array.replicate n (mv none) := by simp
  have e2 : ((List.replicate n (none : Option Nat)).map fdv).toArray = Array.replicate n (fdv none) := by simp
  unfold W5
  refine ⟨⟨?_, ?_, ?_, ?_, ⟨.slice none 0 0, ?_, World.ownsRow_nil _ _ _ _⟩, by omega, fun m hm => by simp [List.mem_replicate] at hm⟩, ?_⟩
  · rw [heap_alloc_old _ _ (by simp only [sz]; omega), List.length_replicate]
    have := heap_alloc_new (((w.alloc (.cells (Array.replicate n (mv none)) 114)).alloc (.cells #[.slice (some ⟨w.heap.size, 0, none⟩) n n] 138)).alloc (.cells (Array.replicate n (fdv none)) 4)) (.cells #[.slice (some ⟨w.heap.size + 1 + 1, 0, none⟩) n n] 139)
    simpa only [sz] using this
  · rw [e2, heap_alloc_old _ _ (by simp only [sz]; omega), heap_alloc_old _ _ (by simp only [sz]; omega)]
    have := heap_alloc_new ((w.alloc (.cells (Array.replicate n (mv none)) 114)).alloc (.cells #[.slice (some ⟨w.heap.size, 0, none⟩) n n] 138)) (.cells (Array.replicate n (fdv none)) 4)
    simpa only [sz] using this
  · rw [heap_alloc_old _ _ (by simp only [sz]; omega), heap_alloc_old _ _ (by simp only [sz]; omega), heap_alloc_old _ _ (by simp only [sz]; omega), List.length_replicate]
    have := heap_alloc_new (w.alloc (.cells (Array.replicate n (mv none)) 114)) (.cells #[.slice (some ⟨w.heap.size, 0, none⟩) n n] 138)
    simpa only [sz] using this
  · rw [e1, heap_alloc_old _ _ (by simp only [sz]; omega), heap_alloc_old _ _ (by simp only [sz]; omega), heap_alloc_old _ _ (by simp only [sz]; omega), heap_alloc_old _ _ (by simp only [sz]; omega), heap_alloc_new]
  · have := heap_alloc_new ((((w.alloc (.cells (Array.replicate n (mv none)) 114)).alloc (.cells #[.slice (some ⟨w.heap.size, 0, none⟩) n n] 138)).alloc (.cells (Array.replicate n (fdv none)) 4)).alloc (.cells #[.slice (some ⟨w.heap.size + 1 + 1, 0, none⟩) n n] 139)) (.cells #[.slice none 0 0] 34)
    simpa only [sz] using this
  · exact (((((alloc_below _ _).alloc (by simp only [sz]; omega) _).alloc (by simp only [sz]; omega) _).alloc (by simp only [sz]; omega) _).alloc (by simp only [sz]; omega) _)

theorem Mid.mono {f : List In} {z : Nat → Bool} {st : Md} {todo : List Int} {i A now : Nat} {x : In} {dn dn' : Nat → Prop} (M : Mid f z st todo i A now x dn) (h : ∀ k, dn' k → dn k) : Mid f z st todo i A now x dn' :=
  ⟨M.base, M.done, M.at_, M.reads, M.nowlt, M.nows, M.un, by
    rcases M.me with h1 | ⟨h1, h2⟩
    · exact .inl h1
    · exact .inr ⟨h1, fun k hk => h2 k (h k hk)⟩⟩

theorem or_bit (m r q : Nat) : (m ||| 2 ^ r).testBit q = true ↔ m.testBit q = true ∨ (some (r : Int) : Option Int) = some (q : Int) := by
  rw [Nat.testBit_or, Nat.testBit_two_pow, Bool.or_eq_true]
  simp only [decide_eq_true_eq, Option.some.injEq]
  exact or_congr Iff.rfl ⟨fun h => by omega, fun h => by omega⟩

def inBox (x : In) (lv : Value) : Obj := .cells #[.int .i64 x.op, .int .i64 x.a, .int .i64 x.b, .int .i64 x.c, lv] 84
theorem box_cells {w : World} {bx : Nat} {x : In} {lv : Value} (h : w.heap[bx]? = some (inBox x lv)) :
    w.cell? ⟨bx, 0, none⟩ = some (.int .i64 x.op) ∧ w.cell? ⟨bx, 1, none⟩ = some (.int .i64 x.a) ∧ w.cell? ⟨bx, 2, none⟩ = some (.int .i64 x.b) ∧ w.cell? ⟨bx, 3, none⟩ = some (.int .i64 x.c) ∧ w.cell? ⟨bx, 4, none⟩ = some lv := by
  unfold inBox at h
  simp [World.cell?, h]

set_option maxRecDepth 100000 in
set_option maxHeartbeats 4000000 in
theorem writtenAhead_any (w : World) (v : Value) (f : List In) (z : Nat) (hf : FunV w v f) (hF : Fit f) (h0 : 0 < f.length) (hn : f.length ≤ 65536) (hz : z < 65536) (ht : TabAt w) :
    Calls Tryd.prog 54 #[v, .int .u16 (z : Int)] w fun e w' => ∃ b : Bool, e = .returned (.bool b) ∧ (b = true ↔ Ahead f z.testBit) ∧ Below w.heap.size w w' := by
  have hmf : ∀ (fn : Fn) (first cap : Array Value) (w : World), (Instr.makeFunc fn first cap).run Tryd.prog w = .ok (.func fn first cap) w := fun _ _ _ _ => rfl
  obtain ⟨oa, cap, b, off, rfl, hc1, hc2, hc3, hc4⟩ := hf
  obtain ⟨rfl, hb⟩ := hc3 h0
  have hts := ht.lt
  have hi1 := Inv.first f z hz h0
  have hm1 := mu_first f z hz h0
  obtain ⟨hw5, hb5⟩ := WAt.new w f.length
  have hk1 := make_masks f.length hn
  have hk2 := make_found f.length hn
  have hw5' := Lib.hid hw5
  have HC4 := Lib.hid hc4
  have HF := Lib.hid hF
  have HT := Lib.hid ht
  have HI1 := Lib.hid hi1
  have HM1 := Lib.hid hm1
  clear hw5 hc4 hF ht hi1 hm1 hc3
  go_enter Tryd.func54, Tryd.ntmps54
  go_wp2_with fail
  clear hk1 hk2
  have hw5 := hw5'.out
  unfold W5 at hw5 hb5
  have hs5 := hb5.size
  refine (mark_any hw5 0 z (by rw [List.length_replicate]; omega) hz hs5 (by simp)).mono ?_
  rintro e w1 ⟨rfl, hA1, hK1⟩
  have hB1 : Below w.heap.size w w1 := hb5.trans (hK1.below hs5)
  clear hw5' hb5 hs5 hK1
  obtain ⟨B, hB⟩ : ∃ B, B = w.heap.size := ⟨_, rfl⟩
  rw [← hB] at hA1
  simp only [← hB]
  replace hB := Lib.hid hB
  obtain ⟨st1, hst1⟩ : ∃ st, st = (markS (List.replicate f.length none) [] 0 z).1 := ⟨_, rfl⟩
  obtain ⟨td1, htd1⟩ : ∃ td, td = (markS (List.replicate f.length none) [] 0 z).2 := ⟨_, rfl⟩
  have HI2 : Hid (Inv f z.testBit st1 td1) := Lib.hid (by rw [hst1, htd1]; exact HI1.out)
  have HM2 : Hid (mu st1 td1 ≤ 34 * f.length) := Lib.hid (by rw [hst1, htd1]; exact HM1.out)
  rw [← hst1, ← htd1] at hA1
  clear hst1 htd1 HI1 HM1 hw5
  go_wp2_with fail
  go_loopg [] (34 * f.length) (fun k wr => ∃ st todo, WAt B (B + 1 + 1 + 1) (B + 1 + 1) (B + 1) B (B + 1 + 1 + 1 + 1) wr st todo ∧ Inv f z.testBit st todo ∧ mu st todo ≤ k ∧ k ≤ 34 * f.length ∧ Below B w wr)
  case atStart => exact ⟨st1, td1, hA1, HI2.out, HM2.out, Nat.le_refl _, by rw [hB.out]; exact hB1⟩
  case round =>
    clear hA1 HI2 HM2 hB1
    obtain ⟨st, todo, A, I, hmu, hk34, hBr⟩ := hrel
    rcases List.eq_nil_or_concat todo with rfl | ⟨todo, iz, rfl⟩
    · obtain ⟨oa, cp, hT⟩ := A.empty
      have c0 : wr.cell? ⟨B + 1 + 1 + 1 + 1, 0, none⟩ = some (.slice oa 0 cp) := by simp [World.cell?, hT]
      have II := Lib.hid I
      have HMU := Lib.hid hmu
      clear I hmu A hT
      go_wp2
      go_ret
      exact ⟨true, rfl, ⟨fun _ => II.out.ahead HF.out, fun _ => rfl⟩, by rw [← hB.out]; exact hBr⟩
    · rw [List.concat_eq_append] at A I hmu
      obtain ⟨i, m, rfl, hsi⟩ := I.base.tod iz (by simp)
      have hil : i < f.length := by rw [← I.base.len]; exact (List.getElem?_eq_some_iff.1 hsi).1
      obtain ⟨x, hx⟩ : ∃ x, f[i]? = some x := ⟨_, List.getElem?_eq_getElem hil⟩
      have hm16 : m < 65536 := I.base.small m (List.mem_of_getElem? hsi)
      obtain ⟨g, cp, hT, hcp1, hcp2, hcell, A2, K2⟩ := A.pop
      have c0 : wr.cell? ⟨B + 1 + 1 + 1 + 1, 0, none⟩ = some (.slice (some ⟨g, 0, none⟩) (todo.length + 1) cp) := by simp [World.cell?, hT]
      have f0 : wr.frozen? ⟨B + 1 + 1 + 1 + 1, 0, none⟩ = false := by simp [World.frozen?, hT]
      have hBsz : B ≤ wr.heap.size := by have := hBr.size; rw [← hB.out] at this; exact this
      have hB2 : Below B w (wr.setCell ⟨B + 1 + 1 + 1 + 1, 0, none⟩ (.slice (some ⟨g, 0, none⟩) todo.length cp)) := hBr.trans (K2.below hBsz)
      have hil' : (i : Int) < f.length := by omega
      have hsl : st.length = f.length := I.base.len
      have hmu2 : todo.length + 1 ≤ gk := by unfold mu at hmu; rw [List.length_append, List.length_singleton] at hmu; omega
      have htl : todo.length ≤ 3000000 := by omega
      have tl : wrap64 (todo.length : Int) = todo.length := IntWalk.wrap64_in _ ⟨by omega, by omega⟩
      have II := Lib.hid I
      have HMU := Lib.hid hmu
      have HX := Lib.hid hx
      have HSI := Lib.hid hsi
      have HSL := Lib.hid hsl
      clear I hmu A hT hx hsi K2 hsl
      obtain ⟨L, hL⟩ : ∃ L, L = todo.length := ⟨_, rfl⟩
      rw [← hL] at hcp1 hcell A2 c0 hB2 tl htl hmu2
      have HL := Lib.hid hL
      have HMU2 := Lib.hid hmu2
      clear hL hmu2 tl
      go_upto_region 9 with fail
      generalize wr.setCell ⟨B + 1 + 1 + 1 + 1, 0, none⟩ (.slice (some ⟨g, 0, none⟩) L cp) = w2 at A2 hB2 ⊢
      clear c0 f0 hcell hBr hBsz
      have hB2' : Below w.heap.size w w2 := by rw [← hB.out]; exact hB2
      clear hB2
      obtain ⟨lv, g0, g1, g2, g3, g4, oal, capl, bl, offl, rfl, hl1, hl2, hl3, hl4⟩ := HC4.out i x HX.out
      unfold maxLen at hl2
      replace hl3 := Lib.hid hl3
      replace hl4 := Lib.hid hl4
      replace g0 := (hB2'.cell (p := ⟨b, off + i * 5, none⟩) hb).trans g0
      replace g1 := (hB2'.cell (p := ⟨b, off + i * 5 + 1, none⟩) hb).trans g1
      replace g2 := (hB2'.cell (p := ⟨b, off + i * 5 + 2, none⟩) hb).trans g2
      replace g3 := (hB2'.cell (p := ⟨b, off + i * 5 + 3, none⟩) hb).trans g3
      replace g4 := (hB2'.cell (p := ⟨b, off + i * 5 + 4, none⟩) hb).trans g4
      have a0 : w2.cell? ⟨B + 1, 0, none⟩ = some (.slice (some ⟨B, 0, none⟩) f.length f.length) := by rw [← HSL.out]; simp [World.cell?, A2.hA]
      have a1 : w2.cell? ⟨B, i, none⟩ = some (.int .u16 (m : Int)) := by simp [World.cell?, A2.rA, HSI.out, mv]
      have hlt : B + 1 < w2.heap.size := World.block_lt_of_cell? w2 _ a0
      have hlt1 : B < w2.heap.size := by omega
      have hlt2 : b < w2.heap.size := World.block_lt_of_cell? w2 _ g0
      go_region
      have A3 := (A2.next (alloc_below w2 (inBox x (.slice oal x.l.length capl)))).drew
      have hB3 : Below w.heap.size w (w2.alloc (inBox x (.slice oal x.l.length capl))).drew := (hB2'.alloc hB2'.size _).drew
      have hbx3 : (w2.alloc (inBox x (.slice oal x.l.length capl))).drew.heap[w2.heap.size]? = some (inBox x (.slice oal x.l.length capl)) := heap_alloc_new _ _
      unfold inBox at A3 hB3 hbx3
      generalize (w2.alloc (.cells #[.int .i64 x.op, .int .i64 x.a, .int .i64 x.b, .int .i64 x.c, .slice oal x.l.length capl] 84)).drew = w3 at A3 hB3 hbx3 ⊢
      generalize w2.heap.size = bx at hbx3 ⊢
      clear g0 g1 g2 g3 g4 a0 a1 hlt hlt1 hlt2 A2 hB2'
      obtain ⟨y0, y1, y2, y3, y4⟩ := box_cells hbx3
      have hc := reads_any x (.slice oal x.l.length capl) w3 (HT.out.below hB3 hts)
      unfold In.val at hc
      go_wp2_with fail
      refine hc.mono ?_
      clear hc
      rintro e w4 ⟨vr, rfl, ⟨oar, capr, br, offr, rfl, hr1, hr2, hr3, hr4⟩, hb4⟩
      have hrl : (readsL x).length ≤ 3 := by
        have q0 := fl_len (shp x.op).f0 x.a; have q1 := fl_len (shp x.op).f1 x.b; have q2 := fl_len (shp x.op).f2 x.c
        simp only [readsL, List.length_append]; omega
      replace hr3 := Lib.hid hr3
      replace hr4 := Lib.hid hr4
      have A4 := A3.next hb4
      have hB4 := hB3.trans (hb4.mono hB3.size)
      have hbx4 : w4.heap[bx]? = some (inBox x (.slice oal x.l.length capl)) := (hb4.block _ (Array.getElem?_eq_some_iff.1 hbx3).1).trans hbx3
      clear hb4 A3 hB3 hbx3 y0 y1 y2 y3 y4
      go_wp2_with fail
      go_loop [53] (fun u => ∃ j : Nat, j ≤ (readsL x).length ∧ u = .int .i64 j ∧ ∀ (k : Nat) (n : Int), k < j → (readsL x)[k]? = some n → m.testBit n.toNat = true) (fun u => (readsL x).length - (intOf u).toNat)
      case atStart => exact ⟨0, by omega, rfl, fun k n hk => absurd hk (Nat.not_lt_zero _)⟩
      case round =>
        obtain ⟨j, hj, rfl, hso⟩ := hrel
        have HSO := Lib.hid hso
        clear hso
        by_cases hjl : j < (readsL x).length
        · have t1 : decide ((j : Int) < (readsL x).length) = true := by simpa using hjl
          obtain ⟨rfl, hbr⟩ := hr3.out (by omega)
          obtain ⟨nz, hnz⟩ : ∃ nz, (readsL x)[j]? = some nz := ⟨_, List.getElem?_eq_getElem hjl⟩
          have hin : nz ∈ readsL x := List.mem_of_getElem? hnz
          obtain ⟨p0, p1⟩ := HF.out.reads i x HX.out nz hin
          obtain ⟨r, rfl⟩ : ∃ r : Nat, nz = r := ⟨nz.toNat, by omega⟩
          have g5 := hr4.out j _ hnz
          have HNZ := Lib.hid hnz
          have HIN := Lib.hid hin
          clear hnz hin
          go_wp2_with fail
          refine (has_any m r hm16 (by omega) _).mono ?_
          rintro e w5 ⟨rfl, rfl⟩
          cases hbit : m.testBit r with
          | false =>
            have HBIT := Lib.hid hbit
            clear hbit
            go_wp2
            go_returns
            exact ⟨false, rfl, ⟨fun h => (by cases h), fun h => absurd h (Inv.not_ahead II.out.base HSI.out HX.out HIN.out (by omega) HBIT.out)⟩, hB4⟩
          | true =>
            have HBIT := Lib.hid hbit
            clear hbit
            go_wp2
            go_round
            case rel =>
              refine ⟨j + 1, by omega, by go_num, fun k n hk hn => ?_⟩
              by_cases e : k = j
              · subst e
                rw [HNZ.out] at hn
                cases hn
                exact HBIT.out
              · exact HSO.out k n (by omega) hn
            case measure => simp [intOf]; omega
        · have t1 : decide ((j : Int) < (readsL x).length) = false := by simpa using hjl
          obtain rfl : j = (readsL x).length := by omega
          have hall : ∀ r : Nat, (r : Int) ∈ readsL x → m.testBit r = true := fun r hr => by
            obtain ⟨k, hk⟩ := List.getElem?_of_mem hr
            exact HSO.out k _ (List.getElem?_eq_some_iff.1 hk).1 hk
          replace hall := Lib.hid hall
          obtain ⟨y0, y1, y2, y3, y4⟩ := box_cells hbx4
          have hc := writes_any x (.slice oal x.l.length capl) w4 (HT.out.below hB4 hts)
          unfold In.val at hc
          go_wp2_with fail
          refine hc.mono ?_
          clear hc
          rintro e w5 ⟨rfl, hb5⟩
          have A5 := A4.next hb5
          have hB5 := hB4.trans (hb5.mono hB4.size)
          have hbx5 : w5.heap[bx]? = some (inBox x (.slice oal x.l.length capl)) := (hb5.block _ (Array.getElem?_eq_some_iff.1 hbx4).1).trans hbx4
          clear hb5 A4 hB4 hbx4 y0 y1 y2 y3 y4
          replace hall := hall.out
          cases hw : writesO x with
          | none =>
            rw [writesV_none]
            replace hw := Lib.hid hw
            have hnow : m < 65536 := hm16
            have M0 := II.out.pop HSI.out HX.out (fun r hr => hall r hr) hnow (fun q _ => by rw [hw.out]; simp)
            have hM0 := Lib.hid M0
            clear M0 hall
            obtain ⟨y0, y1, y2, y3, y4⟩ := box_cells hbx5
            go_wp2_with fail
            go_loopw [74] (fun u wy => ∃ (j : Nat) (st : Md) (todo : List Int), j ≤ x.l.length ∧ u = .int .i64 j ∧ WAt B (B + 1 + 1 + 1) (B + 1 + 1) (B + 1) B (B + 1 + 1 + 1 + 1) wy st todo ∧ Mid f z.testBit st todo i m (m) x (fun k => (k : Int) ∈ x.l.take j) ∧ mu st todo + 1 ≤ gk ∧ Below w.heap.size w wy ∧ wy.heap[bx]? = some (inBox x (.slice oal x.l.length capl))) (fun u _ => x.l.length - (intOf u).toNat)
            case atStart => exact ⟨0, st, todo, by omega, rfl, A5, hM0.out.mono (fun k hk => by simp at hk), by have := HMU.out; have := HL.out; unfold mu at *; rw [List.length_append, List.length_singleton] at *; omega, hB5, hbx5⟩
            case round =>
              clear A5 hB5 hbx5 y0 y1 y2 y3 y4 hM0
              obtain ⟨j, st2, todo2, hj, rfl, A6, M, hmu6, hB6, hbx6⟩ := hrel
              have hBs : B ≤ wr.heap.size := by have := hB6.size; rw [hB.out]; exact this
              have ht6 : todo2.length ≤ 100000000 := by unfold mu at hmu6; omega
              have hM := Lib.hid M
              have hMU6 := Lib.hid hmu6
              have HT6 := Lib.hid ht6
              clear M hmu6 ht6
              by_cases hjl : j < x.l.length
              · have t1 : decide ((j : Int) < x.l.length) = true := by simpa using hjl
                obtain ⟨rfl, hbl⟩ := hl3.out (by omega)
                obtain ⟨lz, hlz⟩ : ∃ lz, x.l[j]? = some lz := ⟨_, List.getElem?_eq_getElem hjl⟩
                have hin : lz ∈ x.l := List.mem_of_getElem? hlz
                obtain ⟨p0, p1⟩ := HF.out.labels i x HX.out lz hin
                obtain ⟨pl, rfl⟩ : ∃ pl : Nat, lz = pl := ⟨lz.toNat, by omega⟩
                have g5 := (hB6.cell (p := ⟨bl, offl + j, none⟩) hbl).trans (hl4.out j _ hlz)
                have HTK := Lib.hid (take_snoc x.l j _ hlz)
                have HIN := Lib.hid hin
                clear hlz hin
                go_wp2_with fail
                refine (mark_any A6 pl (m) (by rw [hM.out.base.len]; omega) hnow hBs HT6.out).mono ?_
                rintro e w6 ⟨rfl, A7, K7⟩
                have hB7 : Below w.heap.size w w6 := hB6.trans (by rw [← hB.out]; exact K7.below hBs)
                have hbx7 : w6.heap[bx]? = some (inBox x (.slice (some ⟨bl, offl, none⟩) x.l.length capl)) := (K7.block bx (Array.getElem?_eq_some_iff.1 hbx6).1 (.inr ⟨_, _, hbx6⟩)).trans hbx6
                have hM7 := Lib.hid ((hM.out.mark HF.out pl (.inl HIN.out)).mono (dn' := fun k => (k : Int) ∈ x.l.take (j + 1)) (fun k hk => by
                  rw [HTK.out] at hk
                  rcases List.mem_append.1 hk with h | h
                  · exact .inl h
                  · exact .inr (by simp at h; omega)))
                have hMU7 := Lib.hid (Nat.le_trans (Nat.add_le_add_right (markS_mu st2 todo2 pl (m) (by rw [hM.out.base.len]; omega) hM.out.base.small hnow) 1) hMU6.out)
                clear g5 A6 K7 hB6 hbx6 hM hMU6
                go_wp2
                go_roundw
                case rel => exact ⟨j + 1, _, _, by omega, by go_num, A7, hM7.out, hMU7.out, hB7, hbx7⟩
                case measure => simp [intOf]; omega
              · have t1 : decide ((j : Int) < x.l.length) = false := by simpa using hjl
                obtain rfl : j = x.l.length := by omega
                obtain ⟨y0, y1, y2, y3, y4⟩ := box_cells hbx6
                have hc := falls_any x (.slice oal x.l.length capl) wr
                unfold In.val at hc
                go_wp2_with fail
                refine hc.mono ?_
                clear hc
                rintro e w6 ⟨rfl, hb6⟩
                have A7 := A6.next hb6
                have hB7 := hB6.trans (hb6.mono hB6.size)
                have hBs7 : B ≤ w6.heap.size := Nat.le_trans hBs hb6.size
                clear A6 hB6 hb6 y0 y1 y2 y3 y4 hbx6 hBs
                cases hfl : fallsB x.op with
                | false =>
                  have HFL := Lib.hid hfl
                  clear hfl
                  go_wp2
                  go_roundg (gk - 1)
                  case measure => have := HMU2.out; omega
                  case rel =>
                    refine ⟨st2, todo2, A7, hM.out.fin (fun k hk => ?_), by have := hMU6.out; omega, by omega, by rw [hB.out]; exact hB7⟩
                    rcases hk with h | ⟨h, _⟩
                    · rw [List.take_length]; exact h
                    · rw [HFL.out] at h; cases h
                | true =>
                  have HFL := Lib.hid hfl
                  have hil2 := HF.out.last i x HX.out hfl
                  have hmk := mark_any A7 (i + 1) (m) (by rw [hM.out.base.len]; omega) hnow hBs7 HT6.out
                  rw [Int.natCast_add, Int.natCast_one] at hmk
                  have hmk := Lib.hid hmk
                  clear hfl
                  go_wp2_with fail
                  refine hmk.out.mono ?_
                  rintro e w7 ⟨rfl, A8, K8⟩
                  clear hmk
                  have hB8 : Below w.heap.size w w7 := hB7.trans (by rw [← hB.out]; exact K8.below hBs7)
                  clear A7 hB7 K8 hBs7
                  go_wp2
                  go_roundg (gk - 1)
                  case measure => have := HMU2.out; omega
                  case rel =>
                    refine ⟨_, _, A8, (hM.out.mark HF.out (i + 1) (.inr ⟨HFL.out, rfl⟩)).fin (fun k hk => ?_), ?_, by omega, by rw [hB.out]; exact hB8⟩
                    · rcases hk with h | ⟨_, h⟩
                      · exact .inl (by rw [List.take_length]; exact h)
                      · exact .inr h
                    · have h1 := markS_mu st2 todo2 (i + 1) (m) (by rw [hM.out.base.len]; omega) hM.out.base.small hnow
                      have := hMU6.out
                      omega
          | some rz =>
            rw [writesV_some]
            obtain ⟨q0, q1⟩ := HF.out.writes i x HX.out rz hw
            obtain ⟨r, rfl⟩ : ∃ r : Nat, rz = r := ⟨rz.toNat, by omega⟩
            replace hw := Lib.hid hw
            have HALL := Lib.hid hall
            clear hall
            go_wp2_with fail
            refine (with_any m r hm16 (by omega) _).mono ?_
            rintro e w6 ⟨rfl, rfl⟩
            have hall := HALL.out
            have hnow : m ||| 2 ^ r < 65536 := or_lt hm16 (by omega)
            have M0 := II.out.pop HSI.out HX.out (fun r hr => hall r hr) hnow (fun q _ => by rw [hw.out]; exact or_bit m r q)
            have hM0 := Lib.hid M0
            clear M0 hall
            obtain ⟨y0, y1, y2, y3, y4⟩ := box_cells hbx5
            go_wp2_with fail
            go_loopw [74] (fun u wy => ∃ (j : Nat) (st : Md) (todo : List Int), j ≤ x.l.length ∧ u = .int .i64 j ∧ WAt B (B + 1 + 1 + 1) (B + 1 + 1) (B + 1) B (B + 1 + 1 + 1 + 1) wy st todo ∧ Mid f z.testBit st todo i m (m ||| 2 ^ r) x (fun k => (k : Int) ∈ x.l.take j) ∧ mu st todo + 1 ≤ gk ∧ Below w.heap.size w wy ∧ wy.heap[bx]? = some (inBox x (.slice oal x.l.length capl))) (fun u _ => x.l.length - (intOf u).toNat)
            case atStart => exact ⟨0, st, todo, by omega, rfl, A5, hM0.out.mono (fun k hk => by simp at hk), by have := HMU.out; have := HL.out; unfold mu at *; rw [List.length_append, List.length_singleton] at *; omega, hB5, hbx5⟩
            case round =>
              clear A5 hB5 hbx5 y0 y1 y2 y3 y4 hM0
              obtain ⟨j, st2, todo2, hj, rfl, A6, M, hmu6, hB6, hbx6⟩ := hrel
              have hBs : B ≤ wr.heap.size := by have := hB6.size; rw [hB.out]; exact this
              have ht6 : todo2.length ≤ 100000000 := by unfold mu at hmu6; omega
              have hM := Lib.hid M
              have hMU6 := Lib.hid hmu6
              have HT6 := Lib.hid ht6
              clear M hmu6 ht6
              by_cases hjl : j < x.l.length
              · have t1 : decide ((j : Int) < x.l.length) = true := by simpa using hjl
                obtain ⟨rfl, hbl⟩ := hl3.out (by omega)
                obtain ⟨lz, hlz⟩ : ∃ lz, x.l[j]? = some lz := ⟨_, List.getElem?_eq_getElem hjl⟩
                have hin : lz ∈ x.l := List.mem_of_getElem? hlz
                obtain ⟨p0, p1⟩ := HF.out.labels i x HX.out lz hin
                obtain ⟨pl, rfl⟩ : ∃ pl : Nat, lz = pl := ⟨lz.toNat, by omega⟩
                have g5 := (hB6.cell (p := ⟨bl, offl + j, none⟩) hbl).trans (hl4.out j _ hlz)
                have HTK := Lib.hid (take_snoc x.l j _ hlz)
                have HIN := Lib.hid hin
                clear hlz hin
                go_wp2_with fail
                refine (mark_any A6 pl (m ||| 2 ^ r) (by rw [hM.out.base.len]; omega) hnow hBs HT6.out).mono ?_
                rintro e w6 ⟨rfl, A7, K7⟩
                have hB7 : Below w.heap.size w w6 := hB6.trans (by rw [← hB.out]; exact K7.below hBs)
                have hbx7 : w6.heap[bx]? = some (inBox x (.slice (some ⟨bl, offl, none⟩) x.l.length capl)) := (K7.block bx (Array.getElem?_eq_some_iff.1 hbx6).1 (.inr ⟨_, _, hbx6⟩)).trans hbx6
                have hM7 := Lib.hid ((hM.out.mark HF.out pl (.inl HIN.out)).mono (dn' := fun k => (k : Int) ∈ x.l.take (j + 1)) (fun k hk => by
                  rw [HTK.out] at hk
                  rcases List.mem_append.1 hk with h | h
                  · exact .inl h
                  · exact .inr (by simp at h; omega)))
                have hMU7 := Lib.hid (Nat.le_trans (Nat.add_le_add_right (markS_mu st2 todo2 pl (m ||| 2 ^ r) (by rw [hM.out.base.len]; omega) hM.out.base.small hnow) 1) hMU6.out)
                clear g5 A6 K7 hB6 hbx6 hM hMU6
                go_wp2
                go_roundw
                case rel => exact ⟨j + 1, _, _, by omega, by go_num, A7, hM7.out, hMU7.out, hB7, hbx7⟩
                case measure => simp [intOf]; omega
              · have t1 : decide ((j : Int) < x.l.length) = false := by simpa using hjl
                obtain rfl : j = x.l.length := by omega
                obtain ⟨y0, y1, y2, y3, y4⟩ := box_cells hbx6
                have hc := falls_any x (.slice oal x.l.length capl) wr
                unfold In.val at hc
                go_wp2_with fail
                refine hc.mono ?_
                clear hc
                rintro e w6 ⟨rfl, hb6⟩
                have A7 := A6.next hb6
                have hB7 := hB6.trans (hb6.mono hB6.size)
                have hBs7 : B ≤ w6.heap.size := Nat.le_trans hBs hb6.size
                clear A6 hB6 hb6 y0 y1 y2 y3 y4 hbx6 hBs
                cases hfl : fallsB x.op with
                | false =>
                  have HFL := Lib.hid hfl
                  clear hfl
                  go_wp2
                  go_roundg (gk - 1)
                  case measure => have := HMU2.out; omega
                  case rel =>
                    refine ⟨st2, todo2, A7, hM.out.fin (fun k hk => ?_), by have := hMU6.out; omega, by omega, by rw [hB.out]; exact hB7⟩
                    rcases hk with h | ⟨h, _⟩
                    · rw [List.take_length]; exact h
                    · rw [HFL.out] at h; cases h
                | true =>
                  have HFL := Lib.hid hfl
                  have hil2 := HF.out.last i x HX.out hfl
                  have hmk := mark_any A7 (i + 1) (m ||| 2 ^ r) (by rw [hM.out.base.len]; omega) hnow hBs7 HT6.out
                  rw [Int.natCast_add, Int.natCast_one] at hmk
                  have hmk := Lib.hid hmk
                  clear hfl
                  go_wp2_with fail
                  refine hmk.out.mono ?_
                  rintro e w7 ⟨rfl, A8, K8⟩
                  clear hmk
                  have hB8 : Below w.heap.size w w7 := hB7.trans (by rw [← hB.out]; exact K8.below hBs7)
                  clear A7 hB7 K8 hBs7
                  go_wp2
                  go_roundg (gk - 1)
                  case measure => have := HMU2.out; omega
                  case rel =>
                    refine ⟨_, _, A8, (hM.out.mark HF.out (i + 1) (.inr ⟨HFL.out, rfl⟩)).fin (fun k hk => ?_), ?_, by omega, by rw [hB.out]; exact hB8⟩
                    · rcases hk with h | ⟨_, h⟩
                      · exact .inl (by rw [List.take_length]; exact h)
                      · exact .inr h
                    · have h1 := markS_mu st2 todo2 (i + 1) (m ||| 2 ^ r) (by rw [hM.out.base.len]; omega) hM.out.base.small hnow
                      have := hMU6.out
                      omega
end Go.Proofs.YtgpkhdccchpljaaDoor.C

namespace Go.Proofs.YtgpkhdccchpljaaDoor.C
open Go.RowKit

def zk (k : Int) : Nat := if k = 0 then 1 else 0
/-- may a function be run? -/
structure FnOk (nc : Nat) (ks : List Int) (k : Int) (f : List In) : Prop where
  pos : 0 < f.length
  small : f.length ≤ 65536
  last : ∀ x, f[f.length - 1]? = some x → fallsB x.op = false
  ins : ∀ x, x ∈ f → instrB nc ks k f.length x = true
  ahead : Ahead f (zk k).testBit

theorem below_iff {n m : Int} : below n m = true ↔ 0 ≤ n ∧ n < m := by simp [below]
theorem instrB_iff {nc : Nat} {ks : List Int} {k n : Int} {x : In} : instrB nc ks k n x = true ↔ known x.op = true ∧ standsB x.op k = true ∧ fitsB nc ks x.a (shp x.op).f0 = true ∧ fitsB nc ks x.b (shp x.op).f1 = true ∧ fitsB nc ks x.c (shp x.op).f2 = true ∧
    (∀ l ∈ x.l, 0 ≤ l ∧ l < n) ∧ labB (shp x.op).lb x.l.length = true := by
  simp only [instrB, fldB, Bool.and_eq_true, List.all_eq_true, below_iff, and_assoc]
theorem fits_reg {nc : Nat} {ks : List Int} {n f : Int} (h : fitsB nc ks n f = true) (hf : f = 1 ∨ f = 2) : 0 ≤ n ∧ n < 16 := by
  unfold fitsB at h
  rw [if_neg (by omega), if_pos hf] at h
  exact below_iff.1 h
theorem fl_mem {f z n : Int} (h : n ∈ fl f z) : f = 1 ∧ n = z := by
  unfold fl at h
  split at h
  · simp at h; exact ⟨by assumption, h⟩
  · simp at h

theorem Fit.of {nc : Nat} {ks : List Int} {k : Int} {f : List In} (hi : ∀ x, x ∈ f → instrB nc ks k f.length x = true) (hl : ∀ x, f[f.length - 1]? = some x → fallsB x.op = false) : Fit f := by
  refine ⟨fun i x hx n hn => ?_, fun i x hx n hn => ?_, fun i x hx n hn => ?_, fun i x hx hf => ?_⟩
  · obtain ⟨_, _, h0, h1, h2, _⟩ := instrB_iff.1 (hi x (List.mem_of_getElem? hx))
    simp only [readsL, List.mem_append] at hn
    rcases hn with (h | h) | h
    · obtain ⟨e, rfl⟩ := fl_mem h; exact fits_reg h0 (.inl e)
    · obtain ⟨e, rfl⟩ := fl_mem h; exact fits_reg h1 (.inl e)
    · obtain ⟨e, rfl⟩ := fl_mem h; exact fits_reg h2 (.inl e)
  · obtain ⟨_, _, h0, h1, h2, _⟩ := instrB_iff.1 (hi x (List.mem_of_getElem? hx))
    unfold writesO at hn
    split at hn
    · cases hn; exact fits_reg h0 (.inr (by assumption))
    · split at hn
      · cases hn; exact fits_reg h1 (.inr (by assumption))
      · split at hn
        · cases hn; exact fits_reg h2 (.inr (by assumption))
        · cases hn
  · obtain ⟨_, _, _, _, _, h3, _⟩ := instrB_iff.1 (hi x (List.mem_of_getElem? hx))
    exact h3 n hn
  · have hil := (List.getElem?_eq_some_iff.1 hx).1
    by_cases e : i + 1 < f.length
    · exact e
    · have : i = f.length - 1 := by omega
      rw [this] at hx
      rw [hl x hx] at hf
      cases hf

set_option maxRecDepth 100000 in
set_option maxHeartbeats 3000000 in
theorem fn_any (w : World) (fv kv v : Value) (oac : Option Addr) (nc capc : Nat) (ks : List Int) (hI : IntsV w kv ks) (f : List In) (hf : FunV w v f) (hlab : ∀ x ∈ f, x.l.length ≤ 9000000000000000000) (k : Int) (ht : TabAt w) :
    Calls Tryd.prog 33 #[.agg #[fv, .slice oac nc capc, kv], v, .int .i64 k] w fun e w' => ∃ b : Bool, e = .returned (.bool b) ∧ (b = true ↔ FnOk nc ks k f) ∧ Below w.heap.size w w' := by
  have hts := ht.lt
  have hf' := hf
  obtain ⟨oa, cap, b, off, rfl, hc1, hc2, hc3, hc4⟩ := hf
  unfold maxLen at hc2
  have hb1 := alloc_below w (.cells #[fv, .slice oac nc capc, kv] 87)
  by_cases h0 : f.length = 0
  · have t0 : ((f.length : Int) == 0) = true := by rw [beq_iff_eq]; omega
    go_enter Tryd.func33, Tryd.ntmps33
    go_wp2
    go_ret
    exact ⟨false, rfl, ⟨fun h => (by cases h), fun h => absurd h.pos (by omega)⟩, hb1⟩
  have t0 : ((f.length : Int) == 0) = false := by rw [beq_eq_false_iff_ne]; omega
  by_cases h1 : 65536 < f.length
  · have t1 : decide ((f.length : Int) > 65536) = true := by simp; omega
    go_enter Tryd.func33, Tryd.ntmps33
    go_wp2
    go_ret
    exact ⟨false, rfl, ⟨fun h => (by cases h), fun h => absurd h.small (by omega)⟩, hb1⟩
  have t1 : decide ((f.length : Int) > 65536) = false := by simp; omega
  obtain ⟨rfl, hb⟩ := hc3 (by omega)
  obtain ⟨n, hn⟩ : ∃ n, f.length = n + 1 := ⟨f.length - 1, by omega⟩
  obtain ⟨xl, hxl⟩ : ∃ xl, f[n]? = some xl := ⟨_, List.getElem?_eq_getElem (by omega)⟩
  obtain ⟨lvl, g0, g1, g2, g3, g4, -⟩ := hc4 n xl hxl
  replace g0 := (hb1.cell hb).trans g0
  replace g1 := (hb1.cell (p := ⟨b, off + n * 5 + 1, none⟩) hb).trans g1
  replace g2 := (hb1.cell (p := ⟨b, off + n * 5 + 2, none⟩) hb).trans g2
  replace g3 := (hb1.cell (p := ⟨b, off + n * 5 + 3, none⟩) hb).trans g3
  replace g4 := (hb1.cell (p := ⟨b, off + n * 5 + 4, none⟩) hb).trans g4
  have v0 := alloc_cell w #[fv, .slice oac nc capc, kv] 87 0 _ rfl
  have v1 := alloc_cell w #[fv, .slice oac nc capc, kv] 87 1 _ rfl
  have v2 := alloc_cell w #[fv, .slice oac nc capc, kv] 87 2 _ rfl
  have hvl : w.heap.size < (w.alloc (.cells #[fv, .slice oac nc capc, kv] 87)).heap.size := by simp
  have hbl : b < (w.alloc (.cells #[fv, .slice oac nc capc, kv] 87)).heap.size := by simp; omega
  have HL := Lib.hid (show ∀ x, f[f.length - 1]? = some x → x = xl from fun x hx => by rw [hn, Nat.add_sub_cancel, hxl] at hx; exact (Option.some.inj hx).symm)
  have HXL := Lib.hid (show f[f.length - 1]? = some xl by rw [hn, Nat.add_sub_cancel]; exact hxl)
  have HT := Lib.hid (ht.below hb1 hts)
  have HKV := Lib.hid (hI.below hb1)
  have HLAB := Lib.hid hlab
  have HCC := Lib.hid (show ∀ i x, f[i]? = some x → InC (w.alloc (.cells #[fv, .slice oac nc capc, kv] 87)) b (off + i * 5) x from fun i x hx => (hc4 i x hx).below hb1)
  rw [hn] at hf' hc1
  have HFV := Lib.hid (hf'.below hb1)
  have hn16 : n < 65536 := by omega
  have hn16i : (n : Int) < 65536 := by omega
  have HINS := Lib.hid (show ∀ m x, instrB nc ks k ((n : Int) + 1) x = m ↔ instrB nc ks k f.length x = m from fun m x => by rw [hn]; rfl)
  clear t0 t1
  have t0 : ((n : Int) + 1 == 0) = false := by rw [beq_eq_false_iff_ne]; omega
  have t1 : decide ((n : Int) + 1 > 65536) = false := by simp; omega
  have HN := Lib.hid hn
  rw [hn]
  clear hxl hc4 ht hI hf' hlab h0 h1 hc3 hn
  go_enter Tryd.func33, Tryd.ntmps33
  go_wp2_with fail
  have hc := falls_any xl lvl (w.alloc (.cells #[fv, .slice oac nc capc, kv] 87))
  unfold In.val at hc
  refine hc.mono ?_
  clear hc
  rintro e w1 ⟨rfl, hb2⟩
  have hB1 := hb1.trans (hb2.mono hb1.size)
  cases hfa : fallsB xl.op with
  | true =>
    have HFA := Lib.hid hfa
    clear hfa
    go_wp2
    go_ret
    exact ⟨false, rfl, ⟨fun h => (by cases h), fun h => by have := h.last xl HXL.out; rw [HFA.out] at this; cases this⟩, hB1⟩
  | false =>
    have HFA := Lib.hid hfa
    clear hfa g0 g1 g2 g3 g4
    replace v0 := (hb2.cell (p := ⟨w.heap.size, 0, none⟩) hvl).trans v0
    replace v1 := (hb2.cell (p := ⟨w.heap.size, 1, none⟩) hvl).trans v1
    replace v2 := (hb2.cell (p := ⟨w.heap.size, 2, none⟩) hvl).trans v2
    have hvl1 : w.heap.size < w1.heap.size := Nat.lt_of_lt_of_le hvl hb2.size
    have hbl1 : b < w1.heap.size := Nat.lt_of_lt_of_le hbl hb2.size
    have HT1 := Lib.hid (HT.out.below hb2 (by simp))
    have HKV1 := Lib.hid (HKV.out.below hb2)
    have HCC1 := Lib.hid (show ∀ i x, f[i]? = some x → InC w1 b (off + i * 5) x from fun i x hx => (HCC.out i x hx).below hb2)
    have HFV1 := Lib.hid (HFV.out.below hb2)
    clear HT HKV HCC HFV hb2 hvl hbl hb1
    go_wp2_with fail
    go_loopw [29] (fun u wr => ∃ j : Nat, j ≤ n + 1 ∧ u = .int .i64 j ∧ (∀ x ∈ f.take j, instrB nc ks k f.length x = true) ∧ Below w1.heap.size w1 wr) (fun u _ => n + 1 - (intOf u).toNat)
    case atStart => exact ⟨0, by omega, rfl, fun x hx => by simp at hx, Below.refl _ _⟩
    case round =>
      obtain ⟨j, hj, rfl, hso, hbw⟩ := hrel
      have HSO := Lib.hid hso
      clear hso
      replace v0 := (hbw.cell (p := ⟨w.heap.size, 0, none⟩) hvl1).trans v0
      replace v1 := (hbw.cell (p := ⟨w.heap.size, 1, none⟩) hvl1).trans v1
      replace v2 := (hbw.cell (p := ⟨w.heap.size, 2, none⟩) hvl1).trans v2
      have hsz := hbw.size
      by_cases hjl : j < n + 1
      · have t2 : decide ((j : Int) < (n : Int) + 1) = true := by simp; omega
        have hjl' : (j : Int) < (n : Int) + 1 := by omega
        obtain ⟨x, hx⟩ : ∃ x, f[j]? = some x := ⟨_, List.getElem?_eq_getElem (by have := HN.out; omega)⟩
        obtain ⟨lv, g0, g1, g2, g3, g4, hlv⟩ := HCC1.out j x hx
        obtain ⟨oal, capl, rfl⟩ : ∃ oal capl, lv = .slice oal x.l.length capl := by obtain ⟨oal, capl, _, _, h, _⟩ := hlv; exact ⟨oal, capl, h⟩
        replace g0 := (hbw.cell (p := ⟨b, off + j * 5, none⟩) hbl1).trans g0
        replace g1 := (hbw.cell (p := ⟨b, off + j * 5 + 1, none⟩) hbl1).trans g1
        replace g2 := (hbw.cell (p := ⟨b, off + j * 5 + 2, none⟩) hbl1).trans g2
        replace g3 := (hbw.cell (p := ⟨b, off + j * 5 + 3, none⟩) hbl1).trans g3
        replace g4 := (hbw.cell (p := ⟨b, off + j * 5 + 4, none⟩) hbl1).trans g4
        have hbr : b < wr.heap.size := by omega
        have hvr : w.heap.size < wr.heap.size := by omega
        have HXM := Lib.hid (List.mem_of_getElem? hx)
        have HTK := Lib.hid (take_snoc f j x hx)
        have hba := alloc_below wr (.cells #[.int .i64 x.op, .int .i64 x.a, .int .i64 x.b, .int .i64 x.c, .slice oal x.l.length capl] 84)
        have hbwa := hbw.trans (hba.mono hbw.size)
        have hc := Lib.hid (instr_any (wr.alloc (.cells #[.int .i64 x.op, .int .i64 x.a, .int .i64 x.b, .int .i64 x.c, .slice oal x.l.length capl] 84)) fv kv (.slice oal x.l.length capl) oac nc capc ks (HKV1.out.below hbwa) x (hlv.below hbwa) k ((n : Int) + 1) (HT1.out.below hbwa (by omega)) (HLAB.out x HXM.out))
        unfold In.val at hc
        clear hx hlv
        go_wp2_with fail
        refine hc.out.mono ?_
        clear hc
        rintro e w3 ⟨rfl, hb3⟩
        have hb4 : Below w1.heap.size w1 w3 := hbwa.trans (hb3.mono hbwa.size)
        clear hb3 hba hbwa g0 g1 g2 g3 g4 v0 v1 v2
        cases hin : instrB nc ks k ((n : Int) + 1) x with
        | false =>
          have HIN := Lib.hid ((HINS.out _ _).1 hin)
          clear hin
          go_wp2
          go_returns
          exact ⟨false, rfl, ⟨fun h => (by cases h), fun h => by have := h.ins x HXM.out; rw [HIN.out] at this; cases this⟩, hB1.trans (hb4.mono hB1.size)⟩
        | true =>
          have HIN := Lib.hid ((HINS.out _ _).1 hin)
          clear hin
          go_wp2
          go_roundw
          case rel =>
            refine ⟨j + 1, by omega, by go_num, fun y hy => ?_, hb4⟩
            rw [HTK.out] at hy
            rcases List.mem_append.1 hy with h | h
            · exact HSO.out y h
            · simp at h; rw [h]; exact HIN.out
          case measure => simp [intOf]; omega
      · have t2 : decide ((j : Int) < (n : Int) + 1) = false := by simp; omega
        obtain rfl : j = n + 1 := by omega
        have hall : ∀ x ∈ f, instrB nc ks k f.length x = true := fun x hx => HSO.out x (by rw [← HN.out, List.take_length]; exact hx)
        have hlast : ∀ x, f[f.length - 1]? = some x → fallsB x.op = false := fun x hx => by rw [HL.out x hx]; exact HFA.out
        have hFit := Fit.of hall hlast
        have HALL := Lib.hid hall
        have HLAST := Lib.hid hlast
        have HFIT := Lib.hid hFit
        clear hall hlast hFit
        have hBr : Below w.heap.size w wr := hB1.trans (hbw.mono hB1.size)
        have fin : ∀ (b : Bool) (z : Nat), z = zk k → (b = true ↔ Ahead f z.testBit) → (b = true ↔ FnOk nc ks k f) := fun b z hz h => by
          subst hz
          exact ⟨fun hb => ⟨by have := HN.out; omega, by have := HN.out; omega, HLAST.out, HALL.out, h.1 hb⟩, fun hb => h.2 hb.ahead⟩
        replace fin := Lib.hid fin
        by_cases hk0 : k = 0
        · subst hk0
          go_wp2_with fail
          have hw := with_any 0 0 (by decide) (by decide) wr
          refine hw.mono ?_
          clear hw
          rintro e w3 ⟨rfl, rfl⟩
          go_wp2_with fail
          refine (writtenAhead_any _ _ f 1 (HFV1.out.below hbw) HFIT.out (by have := HN.out; omega) (by have := HN.out; omega) (by decide) (HT1.out.below hbw (by omega))).mono ?_
          rintro e w3 ⟨b3, rfl, hiff, hb3⟩
          replace hiff := Lib.hid hiff
          go_wp2
          go_ret
          exact ⟨b3, rfl, fin.out b3 1 rfl hiff.out, hBr.trans (hb3.mono hBr.size)⟩
        · have t3 : (k == 0) = false := by simpa using hk0
          have hz : (0 : Nat) = zk k := by rw [zk, if_neg hk0]
          replace hz := Lib.hid hz
          clear hk0
          go_wp2_with fail
          refine (writtenAhead_any _ _ f 0 (HFV1.out.below hbw) HFIT.out (by have := HN.out; omega) (by have := HN.out; omega) (by decide) (HT1.out.below hbw (by omega))).mono ?_
          rintro e w3 ⟨b3, rfl, hiff, hb3⟩
          replace hiff := Lib.hid hiff
          go_wp2
          go_ret
          exact ⟨b3, rfl, fin.out b3 0 hz.out hiff.out, hBr.trans (hb3.mono hBr.size)⟩
end Go.Proofs.YtgpkhdccchpljaaDoor.C

namespace Go.Proofs.YtgpkhdccchpljaaDoor.C
open Go.RowKit

def coB (ks : List Int) (c : Cr) : Bool := isB ks c.re 1 && (isB ks c.ca 2 && (decide (3 ≤ c.wo) && (decide (c.wo ≤ 1048576) && (decide (0 ≤ c.ar) && decide (c.ar ≤ c.wo - 3)))))

set_option maxRecDepth 100000 in
set_option maxHeartbeats 2000000 in
theorem co_any (w : World) (fv cv kv : Value) (ks : List Int) (hI : IntsV w kv ks) (c : Cr) (s : ByteArray) : Calls Tryd.prog 32 #[.agg #[fv, cv, kv], .agg #[.string s, .int .i64 c.re, .int .i64 c.ca, .int .i64 c.wo, .int .i64 c.ar]] w fun e w' => e = .returned (.bool (coB ks c)) ∧ Below w.heap.size w w' := by
  have hb2 : Below w.heap.size w ((w.alloc (.cells #[fv, cv, kv] 87)).alloc (.cells #[.string s, .int .i64 c.re, .int .i64 c.ca, .int .i64 c.wo, .int .i64 c.ar] 66)) := (alloc_below _ _).alloc (by simp) _
  have HKV := Lib.hid (hI.below ⟨hb2.os, hb2.tape, hb2.output, hb2.size, hb2.block⟩)
  replace hb2 := Lib.hid hb2
  have bc : ∀ j u w1, Below ((w.alloc (.cells #[fv, cv, kv] 87)).alloc (.cells #[.string s, .int .i64 c.re, .int .i64 c.ca, .int .i64 c.wo, .int .i64 c.ar] 66)).heap.size ((w.alloc (.cells #[fv, cv, kv] 87)).alloc (.cells #[.string s, .int .i64 c.re, .int .i64 c.ca, .int .i64 c.wo, .int .i64 c.ar] 66)) w1 →
      (#[.string s, .int .i64 c.re, .int .i64 c.ca, .int .i64 c.wo, .int .i64 c.ar] : Array Value)[j]? = some u → w1.cell? ⟨w.heap.size + 1, j, none⟩ = some u := fun j u w1 hb hu => by
    have h := alloc_cell (w.alloc (.cells #[fv, cv, kv] 87)) #[.string s, .int .i64 c.re, .int .i64 c.ca, .int .i64 c.wo, .int .i64 c.ar] 66 j u hu
    rw [show (w.alloc (.cells #[fv, cv, kv] 87)).heap.size = w.heap.size + 1 by simp] at h
    exact (hb.cell (p := ⟨w.heap.size + 1, j, none⟩) (by simp)).trans h
  have vc : ∀ j u w1, Below ((w.alloc (.cells #[fv, cv, kv] 87)).alloc (.cells #[.string s, .int .i64 c.re, .int .i64 c.ca, .int .i64 c.wo, .int .i64 c.ar] 66)).heap.size ((w.alloc (.cells #[fv, cv, kv] 87)).alloc (.cells #[.string s, .int .i64 c.re, .int .i64 c.ca, .int .i64 c.wo, .int .i64 c.ar] 66)) w1 →
      (#[fv, cv, kv] : Array Value)[j]? = some u → w1.cell? ⟨w.heap.size, j, none⟩ = some u := fun j u w1 hb hu => (hb.cell (p := ⟨w.heap.size, j, none⟩) (by simp; omega)).trans ((alloc_same _ _ _ (by simp)).trans (alloc_cell w #[fv, cv, kv] 87 j u hu))
  replace bc := Lib.hid bc
  replace vc := Lib.hid vc
  go_enter Tryd.func32, Tryd.ntmps32
  go_wp2_with fail
  refine (is_any _ fv cv kv ks HKV.out c.re 1).mono ?_
  rintro e w1 ⟨rfl, hb3⟩
  cases h1 : isB ks c.re 1 with
  | false =>
    have H1 := Lib.hid h1
    clear h1
    have hB := hb2.out.trans (hb3.mono hb2.out.size)
    clear hb3
    go_wp2
    go_ret
    exact ⟨by rw [coB, H1.out]; rfl, hB⟩
  | true =>
    have H1 := Lib.hid h1
    clear h1
    have c0 := bc.out 0 _ _ hb3 rfl
    have c1 := bc.out 1 _ _ hb3 rfl
    have c2 := bc.out 2 _ _ hb3 rfl
    have c3 := bc.out 3 _ _ hb3 rfl
    have c4 := bc.out 4 _ _ hb3 rfl
    have d0 := vc.out 0 _ _ hb3 rfl
    have d1 := vc.out 1 _ _ hb3 rfl
    have d2 := vc.out 2 _ _ hb3 rfl
    go_wp2_with fail
    refine (is_any _ fv cv kv ks (HKV.out.below hb3) c.ca 2).mono ?_
    rintro e w2 ⟨rfl, hb4⟩
    have hb5 := hb3.trans (hb4.mono hb3.size)
    have hB := hb2.out.trans (hb5.mono hb2.out.size)
    clear c0 c1 c2 c3 c4 d0 d1 d2 hb3 hb4
    cases h2 : isB ks c.ca 2 with
    | false =>
      have H2 := Lib.hid h2
      clear h2 hb5
      go_wp2
      go_ret
      exact ⟨by rw [coB, H1.out, H2.out]; rfl, hB⟩
    | true =>
      have H2 := Lib.hid h2
      clear h2
      have c3 := bc.out 3 _ _ hb5 rfl
      have c4 := bc.out 4 _ _ hb5 rfl
      have HRES := Lib.hid (show coB ks c = (decide (3 ≤ c.wo) && (decide (c.wo ≤ 1048576) && (decide (0 ≤ c.ar) && decide (c.ar ≤ c.wo - 3)))) by rw [coB, H1.out, H2.out]; rfl)
      clear hb5 bc vc HKV hb2
      generalize c.wo = wo at c3 HRES ⊢
      generalize c.ar = ar at c4 HRES ⊢
      by_cases t1 : 3 ≤ wo
      · by_cases t2 : wo ≤ 1048576
        · have hw : wrap64 (wo - 3) = wo - 3 := IntWalk.wrap64_in _ ⟨by omega, by omega⟩
          by_cases t3 : 0 ≤ ar
          · by_cases t4 : ar ≤ wo - 3
            · have q1 : decide (wo ≥ 3) = true := by simpa using t1
              have q2 : decide (wo ≤ 1048576) = true := by simpa using t2
              have q3 : decide (ar ≥ 0) = true := by simpa using t3
              have q4 : decide (ar ≤ wo - 3) = true := by simpa using t4
              clear hw
              go_wp2
              go_ret
              exact ⟨by rw [HRES.out, decide_eq_true t1, decide_eq_true t2, decide_eq_true t3, decide_eq_true t4]; rfl, hB⟩
            · have q1 : decide (wo ≥ 3) = true := by simpa using t1
              have q2 : decide (wo ≤ 1048576) = true := by simpa using t2
              have q3 : decide (ar ≥ 0) = true := by simpa using t3
              have q4 : decide (ar ≤ wo - 3) = false := by simpa using t4
              clear hw
              go_wp2
              go_ret
              exact ⟨by rw [HRES.out, decide_eq_true t1, decide_eq_true t2, decide_eq_true t3, decide_eq_false (by omega)]; rfl, hB⟩
          · have q1 : decide (wo ≥ 3) = true := by simpa using t1
            have q2 : decide (wo ≤ 1048576) = true := by simpa using t2
            have q3 : decide (ar ≥ 0) = false := by simpa using t3
            clear hw
            go_wp2
            go_ret
            exact ⟨by rw [HRES.out, decide_eq_true t1, decide_eq_true t2, decide_eq_false (by omega)]; rfl, hB⟩
        · have q1 : decide (wo ≥ 3) = true := by simpa using t1
          have q2 : decide (wo ≤ 1048576) = false := by simpa using t2
          go_wp2
          go_ret
          exact ⟨by rw [HRES.out, decide_eq_true t1, decide_eq_false (by omega)]; rfl, hB⟩
      · have q1 : decide (wo ≥ 3) = false := by simpa using t1
        go_wp2
        go_ret
        exact ⟨by rw [HRES.out, decide_eq_false (by omega)]; rfl, hB⟩
end Go.Proofs.YtgpkhdccchpljaaDoor.C

namespace Go.Proofs.YtgpkhdccchpljaaDoor.C
open Go.RowKit

/-- may a program be run? -/
structure PgOk (p : Pg) : Prop where
  fs : p.fs.length ≤ 65536
  cs : p.cs.length ≤ 65536
  co : ∀ c ∈ p.cs, coB (kindsL p) c = true
  fn : ∀ i f, p.fs[i]? = some f → FnOk p.cs.length (kindsL p) ((kindsL p).getD i 0) f

/-- labels that a machine can hold -/
def LabOk (p : Pg) : Prop := ∀ f ∈ p.fs, ∀ x ∈ f, x.l.length ≤ 9000000000000000000

theorem zfacts {W w2 : World} {N k : Nat} (hb2 : Below N W w2) (hk : k < N) (hz : W.heap[k]? = some (.cells #[.slice none 0 0, .slice none 0 0, .slice none 0 0] 87)) :
    w2.cell? ⟨k, 0, none⟩ = some (.slice none 0 0) ∧ w2.cell? ⟨k, 1, none⟩ = some (.slice none 0 0) ∧ w2.cell? ⟨k, 2, none⟩ = some (.slice none 0 0) ∧ w2.frozen? ⟨k, 0, none⟩ = false ∧ w2.frozen? ⟨k, 1, none⟩ = false ∧ w2.frozen? ⟨k, 2, none⟩ = false ∧ w2.heap[k]? = some (.cells #[.slice none 0 0, .slice none 0 0, .slice none 0 0] 87) := by
  have zb := (hb2.block k hk).trans hz
  simp [World.cell?, World.frozen?, zb]

/-- behind the viewer's making -/
def VR (W : World) (fv cv : Value) (ks : List Int) (s3 : Value) (wc : World) : Prop :=
  ∃ bv kv, s3 = .pointer (some ⟨bv, 0, none⟩) ∧ wc.heap[bv]? = some (.cells #[fv, cv, kv] 87) ∧ IntsV wc kv ks ∧ Below W.heap.size W wc
theorem VR.a {W w2 : World} {fv cv kv : Value} {ks : List Int} (hb2 : Below W.heap.size W w2) (hI : IntsV w2 kv ks) : VR W fv cv ks (.pointer (some ⟨w2.heap.size, 0, none⟩)) (w2.alloc (.cells #[fv, cv, kv] 87)) :=
  ⟨_, kv, rfl, heap_alloc_new _ _, hI.below (alloc_below _ _), hb2.alloc hb2.size _⟩
theorem VR.b {W w1 w2 : World} {fv cv kv : Value} {ks : List Int} {k N : Nat} (h0 : Below W.heap.size W w1) (hb2 : Below N w1 w2) (hN : W.heap.size ≤ N) (hk : W.heap.size ≤ k) (hI : IntsV w2 kv ks) (zb : w2.heap[k]? = some (.cells #[.slice none 0 0, .slice none 0 0, .slice none 0 0] 87)) :
    VR W fv cv ks (.pointer (some ⟨k, 0, none⟩)) (((w2.setCell ⟨k, 0, none⟩ fv).setCell ⟨k, 1, none⟩ cv).setCell ⟨k, 2, none⟩ kv) := by
  have h1 := heap_setCell_same w2 k 0 _ 87 fv zb
  have h2 := heap_setCell_same (w2.setCell ⟨k, 0, none⟩ fv) k 1 _ 87 cv h1
  have h3 := heap_setCell_same ((w2.setCell ⟨k, 0, none⟩ fv).setCell ⟨k, 1, none⟩ cv) k 2 _ 87 kv h2
  have other : ∀ b, b ≠ k → (((w2.setCell ⟨k, 0, none⟩ fv).setCell ⟨k, 1, none⟩ cv).setCell ⟨k, 2, none⟩ kv).heap[b]? = w2.heap[b]? := fun b hb => by
    rw [Below.heap_setCell _ ⟨k, 2, none⟩ _ b hb, Below.heap_setCell _ ⟨k, 1, none⟩ _ b hb, Below.heap_setCell _ ⟨k, 0, none⟩ _ b hb]
  refine ⟨k, kv, rfl, h3, ?_, (((h0.trans (hb2.mono hN)).setCell (p := ⟨k, 0, none⟩) hk _).setCell (p := ⟨k, 1, none⟩) hk _).setCell (p := ⟨k, 2, none⟩) hk _⟩
  obtain ⟨oa, cap, b, off, hkv, g1, g2, g3, g4⟩ := hI
  refine ⟨oa, cap, b, off, hkv, g1, g2, fun h => ⟨(g3 h).1, by simpa [World.setCell] using (g3 h).2⟩, fun i z hz => ?_⟩
  have hne : b ≠ k := fun e => by
    have h := g4 i z hz
    subst e
    simp only [World.cell?, zb] at h
    have hh : (#[.slice none 0 0, .slice none 0 0, .slice none 0 0] : Array Value)[off + i]? = some (.int .i64 z) := h
    match hm : off + i, hh with
    | 0, hh => cases hh
    | 1, hh => cases hh
    | 2, hh => cases hh
    | n + 3, hh => simp at hh
  have h := g4 i z hz
  have e : (((w2.setCell ⟨k, 0, none⟩ fv).setCell ⟨k, 1, none⟩ cv).setCell ⟨k, 2, none⟩ kv).cell? ⟨b, off + i, none⟩ = w2.cell? ⟨b, off + i, none⟩ := by
    simp only [World.cell?, other b hne]
  rw [e]
  exact h

set_option maxRecDepth 100000 in
set_option maxHeartbeats 3000000 in
theorem valid_any (w : World) (fv cv : Value) (p : Pg) (hP : PgV w fv cv p) (hL : LabOk p) (ht : TabAt w) :
    Calls Tryd.prog 18 #[.agg #[fv, cv]] w fun e w' => ∃ b : Bool, e = .returned (.bool b) ∧ (b = true ↔ PgOk p) ∧ Below w.heap.size w w' := by
  have hts := ht.lt
  have hP' := hP
  obtain ⟨⟨oaf, capf, bf, off, rfl, hf1, hf2, hf3, hf4⟩, oac, capc, bc, offc, rfl, hc1, hc2, hc3, hc4⟩ := hP
  unfold maxLen at hf2 hc2
  have hb1 := alloc_below w (.cells #[.slice oaf p.fs.length capf, .slice oac p.cs.length capc] 25)
  by_cases h0 : 65536 < p.fs.length
  · have t0 : decide ((p.fs.length : Int) > 65536) = true := by simp; omega
    go_enter Tryd.func18, Tryd.ntmps18
    go_wp2
    go_ret
    exact ⟨false, rfl, ⟨fun h => (by cases h), fun h => absurd h.fs (by omega)⟩, hb1⟩
  have t0 : decide ((p.fs.length : Int) > 65536) = false := by simp; omega
  by_cases h1 : 65536 < p.cs.length
  · have t1 : decide ((p.cs.length : Int) > 65536) = true := by simp; omega
    go_enter Tryd.func18, Tryd.ntmps18
    go_wp2
    go_ret
    exact ⟨false, rfl, ⟨fun h => (by cases h), fun h => absurd h.cs (by omega)⟩, hb1⟩
  have t1 : decide ((p.cs.length : Int) > 65536) = false := by simp; omega
  have HP := Lib.hid hP'
  have HL := Lib.hid hL
  have HT := Lib.hid ht
  replace hf3 := Lib.hid hf3
  replace hf4 := Lib.hid hf4
  replace hc3 := Lib.hid hc3
  replace hc4 := Lib.hid hc4
  have hfn : p.fs.length ≤ 65536 := by omega
  have hcn : p.cs.length ≤ 65536 := by omega
  have c0 := alloc_cell w #[.slice oaf p.fs.length capf, .slice oac p.cs.length capc] 25 0 _ rfl
  have c1 := alloc_cell w #[.slice oaf p.fs.length capf, .slice oac p.cs.length capc] 25 1 _ rfl
  have hzb : ((w.alloc (.cells #[.slice oaf p.fs.length capf, .slice oac p.cs.length capc] 25)).alloc (.cells #[.slice none 0 0, .slice none 0 0, .slice none 0 0] 87)).heap[w.heap.size + 1]? = some (.cells #[.slice none 0 0, .slice none 0 0, .slice none 0 0] 87) := by
    have := heap_alloc_new (w.alloc (.cells #[.slice oaf p.fs.length capf, .slice oac p.cs.length capc] 25)) (.cells #[.slice none 0 0, .slice none 0 0, .slice none 0 0] 87)
    simpa using this
  have d0 : ((w.alloc (.cells #[.slice oaf p.fs.length capf, .slice oac p.cs.length capc] 25)).alloc (.cells #[.slice none 0 0, .slice none 0 0, .slice none 0 0] 87)).cell? ⟨w.heap.size, 0, none⟩ = some (.slice oaf p.fs.length capf) := (alloc_same _ _ _ (by simp)).trans c0
  have d1 : ((w.alloc (.cells #[.slice oaf p.fs.length capf, .slice oac p.cs.length capc] 25)).alloc (.cells #[.slice none 0 0, .slice none 0 0, .slice none 0 0] 87)).cell? ⟨w.heap.size, 1, none⟩ = some (.slice oac p.cs.length capc) := (alloc_same _ _ _ (by simp)).trans c1
  have hkz := Lib.hid (show w.heap.size + 1 < ((w.alloc (.cells #[.slice oaf p.fs.length capf, .slice oac p.cs.length capc] 25)).alloc (.cells #[.slice none 0 0, .slice none 0 0, .slice none 0 0] 87)).heap.size by simp)
  replace hzb := Lib.hid hzb
  replace d0 := Lib.hid d0
  replace d1 := Lib.hid d1
  clear hP' hL ht h0 h1
  go_enter Tryd.func18, Tryd.ntmps18
  go_upto_region 3 with fail
  go_cut [3] (fun s3 wc => VR (w.alloc (.cells #[.slice oaf p.fs.length capf, .slice oac p.cs.length capc] 25)) (.slice oaf p.fs.length capf) (.slice oac p.cs.length capc) (kindsL p) s3 wc)
  case first =>
    go_region_law (go_simp; go_at_call 31; refine (kinds_any _ _ _ p (HP.out.below (by first | exact (alloc_below _ _).drew | exact ((alloc_below _ _).alloc (by simp) _).drew)) hfn hcn).mono ?_; rintro e w2 ⟨kv, rfl, hI2, hb2⟩; have HI2 := Lib.hid hI2; obtain ⟨oak, capk, bk, offk, rfl, k1, k2, -, -⟩ := hI2; have p0 : w2.cell? ⟨w.heap.size, 0, none⟩ = some (.slice oaf p.fs.length capf) := (hb2.cell (p := ⟨w.heap.size, 0, none⟩) (by first | (simp; done) | (simp; omega))).trans (by first | exact c0 | exact d0.out); have p1 : w2.cell? ⟨w.heap.size, 1, none⟩ = some (.slice oac p.cs.length capc) := (hb2.cell (p := ⟨w.heap.size, 1, none⟩) (by first | (simp; done) | (simp; omega))).trans (by first | exact c1 | exact d1.out); have plt : w.heap.size < w2.heap.size := World.block_lt_of_cell? w2 _ p0; try (obtain ⟨z0, z1, z2, y0, y1, y2, zb⟩ := zfacts hb2 hkz.out hzb.out; replace zb := Lib.hid zb))
    all_goals (go_wp2_with fail; go_meet)
    all_goals first
      | exact VR.a ⟨hb2.os, hb2.tape, hb2.output, hb2.size, hb2.block⟩ HI2.out
      | exact VR.b (alloc_below _ _) ⟨hb2.os, hb2.tape, hb2.output, hb2.size, hb2.block⟩ (by simp) (by simp) HI2.out zb.out
  case rest =>
    clear hkz hzb d0 d1
    obtain ⟨bv, kv, rfl, hbv, hIk, hBc⟩ := hcut
    obtain ⟨ks, hks⟩ : ∃ ks, ks = kindsL p := ⟨_, rfl⟩
    rw [← hks] at hIk
    have HKS := Lib.hid hks
    clear hks
    have hlk := Lib.hid (show ks.length = p.fs.length by rw [HKS.out, kindsL_len])
    replace c0 := (hBc.cell (p := ⟨w.heap.size, 0, none⟩) (by simp)).trans c0
    replace c1 := (hBc.cell (p := ⟨w.heap.size, 1, none⟩) (by simp)).trans c1
    have hB : Below w.heap.size w wc := hb1.trans (hBc.mono hb1.size)
    have hwc : w.heap.size < wc.heap.size := World.block_lt_of_cell? wc _ c0
    have hvc : bv < wc.heap.size := (Array.getElem?_eq_some_iff.1 hbv).1
    have HIK := Lib.hid hIk
    obtain ⟨oak, capk, bk, offk, rfl, k1, k2, k3, k4⟩ := hIk
    unfold maxLen at k2
    replace k3 := Lib.hid k3
    replace k4 := Lib.hid k4
    have v0 : wc.cell? ⟨bv, 0, none⟩ = some (.slice oaf p.fs.length capf) := by simp [World.cell?, hbv]
    have v1 : wc.cell? ⟨bv, 1, none⟩ = some (.slice oac p.cs.length capc) := by simp [World.cell?, hbv]
    have v2 : wc.cell? ⟨bv, 2, none⟩ = some (.slice oak ks.length capk) := by simp [World.cell?, hbv]
    clear hbv hBc hb1
    go_wp2_with fail
    go_loopw [25] (fun u wr => ∃ j : Nat, j ≤ p.cs.length ∧ u = .int .i64 j ∧ (∀ c ∈ p.cs.take j, coB ks c = true) ∧ Below wc.heap.size wc wr) (fun u _ => p.cs.length - (intOf u).toNat)
    case atStart => exact ⟨0, by omega, rfl, fun c hc => by simp at hc, Below.refl _ _⟩
    case round =>
      obtain ⟨j, hj, rfl, hso, hbw⟩ := hrel
      have HSO := Lib.hid hso
      clear hso
      replace v0 := (hbw.cell (p := ⟨bv, 0, none⟩) hvc).trans v0
      replace v1 := (hbw.cell (p := ⟨bv, 1, none⟩) hvc).trans v1
      replace v2 := (hbw.cell (p := ⟨bv, 2, none⟩) hvc).trans v2
      replace c0 := (hbw.cell (p := ⟨w.heap.size, 0, none⟩) hwc).trans c0
      have hsz := hbw.size
      have hBw : Below w.heap.size w wr := hB.trans (hbw.mono hB.size)
      by_cases hjl : j < p.cs.length
      · have t2 : decide ((j : Int) < p.cs.length) = true := by simp; omega
        obtain ⟨rfl, hbc⟩ := hc3.out (by omega)
        obtain ⟨c, hc⟩ : ∃ c, p.cs[j]? = some c := ⟨_, List.getElem?_eq_getElem hjl⟩
        obtain ⟨sn, g0, g1, g2, g3, g4⟩ := hc4.out j c hc
        have HTK := Lib.hid (take_snoc p.cs j c hc)
        have HCM := Lib.hid (List.mem_of_getElem? hc)
        replace g0 := (hBw.cell (p := ⟨bc, offc + j * 5, none⟩) hbc).trans g0
        replace g1 := (hBw.cell (p := ⟨bc, offc + j * 5 + 1, none⟩) hbc).trans g1
        replace g2 := (hBw.cell (p := ⟨bc, offc + j * 5 + 2, none⟩) hbc).trans g2
        replace g3 := (hBw.cell (p := ⟨bc, offc + j * 5 + 3, none⟩) hbc).trans g3
        replace g4 := (hBw.cell (p := ⟨bc, offc + j * 5 + 4, none⟩) hbc).trans g4
        have hbcr : bc < wr.heap.size := Nat.lt_of_lt_of_le hbc hBw.size
        have hbvr : bv < wr.heap.size := by omega
        have hba := hbw.trans ((alloc_below wr (.cells #[.string sn, .int .i64 c.re, .int .i64 c.ca, .int .i64 c.wo, .int .i64 c.ar] 66)).mono hbw.size)
        have hcc := Lib.hid (co_any (wr.alloc (.cells #[.string sn, .int .i64 c.re, .int .i64 c.ca, .int .i64 c.wo, .int .i64 c.ar] 66)) (.slice oaf p.fs.length capf) (.slice (some ⟨bc, offc, none⟩) p.cs.length capc) (.slice oak ks.length capk) ks (HIK.out.below hba) c sn)
        clear hc
        go_wp2_with fail
        refine hcc.out.mono ?_
        clear hcc
        rintro e w3 ⟨rfl, hb3⟩
        have hb4 := hba.trans (hb3.mono hba.size)
        clear hb3 hba g0 g1 g2 g3 g4 v0 v1 v2 c0 hbw hBw
        cases hco : coB ks c with
        | false =>
          have HCO := Lib.hid hco
          clear hco
          go_wp2
          go_returns
          exact ⟨false, rfl, ⟨fun h => (by cases h), fun h => by have := h.co c HCM.out; rw [← HKS.out, HCO.out] at this; cases this⟩, hB.trans (hb4.mono hB.size)⟩
        | true =>
          have HCO := Lib.hid hco
          clear hco
          go_wp2
          go_roundw
          case rel =>
            refine ⟨j + 1, by omega, by go_num, fun d hd => ?_, hb4⟩
            rw [HTK.out] at hd
            rcases List.mem_append.1 hd with h | h
            · exact HSO.out d h
            · simp at h; rw [h]; exact HCO.out
          case measure => simp [intOf]; omega
      · have t2 : decide ((j : Int) < p.cs.length) = false := by simp; omega
        obtain rfl : j = p.cs.length := by omega
        rw [List.take_length] at HSO
        have hwr : w.heap.size < wr.heap.size := by omega
        have hvr : bv < wr.heap.size := by omega
        have HIK2 := Lib.hid (HIK.out.below hbw)
        have HKC := Lib.hid (show ∀ i z, ks[i]? = some z → wr.cell? ⟨bk, offk + i, none⟩ = some (.int .i64 z) ∧ oak = some ⟨bk, offk, none⟩ ∧ bk < wr.heap.size from fun i z hz => by
          obtain ⟨h1, h2⟩ := k3.out (by have := (List.getElem?_eq_some_iff.1 hz).1; omega)
          exact ⟨(hbw.cell (p := ⟨bk, offk + i, none⟩) h2).trans (k4.out i z hz), h1, by omega⟩)
        clear hB hbw hwc hvc HIK k3 k4 c1 hsz
        obtain ⟨wp, hwp⟩ : ∃ wp, wp = wr := ⟨_, rfl⟩
        subst hwp
        go_wp2_with fail
        go_loopw [37] (fun u wy => ∃ j : Nat, j ≤ p.fs.length ∧ u = .int .i64 j ∧ (∀ (i : Nat) (f : List In), i < j → p.fs[i]? = some f → FnOk p.cs.length ks (ks.getD i 0) f) ∧ Below wp.heap.size wp wy) (fun u _ => p.fs.length - (intOf u).toNat)
        case atStart => exact ⟨0, by omega, rfl, fun i f hi => absurd hi (Nat.not_lt_zero _), Below.refl _ _⟩
        case round =>
          obtain ⟨j, hj, rfl, hso, hbw⟩ := hrel
          have HFO := Lib.hid hso
          clear hso
          replace v0 := (hbw.cell (p := ⟨bv, 0, none⟩) hvr).trans v0
          replace v1 := (hbw.cell (p := ⟨bv, 1, none⟩) hvr).trans v1
          replace v2 := (hbw.cell (p := ⟨bv, 2, none⟩) hvr).trans v2
          have hsz2 := hbw.size
          have hBy : Below w.heap.size w wr := hBw.trans (hbw.mono hBw.size)
          by_cases hjl : j < p.fs.length
          · have t2 : decide ((j : Int) < p.fs.length) = true := by simp; omega
            obtain ⟨rfl, hbf⟩ := hf3.out (by omega)
            obtain ⟨f, hf⟩ : ∃ f, p.fs[j]? = some f := ⟨_, List.getElem?_eq_getElem hjl⟩
            obtain ⟨fvj, g0, hFV⟩ := hf4.out j f hf
            obtain ⟨kz, hkz⟩ : ∃ kz, ks[j]? = some kz := ⟨_, List.getElem?_eq_getElem (by have := hlk.out; omega)⟩
            obtain ⟨g1, rfl, hbk⟩ := HKC.out j kz hkz
            have HKZ := Lib.hid (show ks.getD j 0 = kz by rw [List.getD_eq_getElem?_getD, hkz]; rfl)
            have HLB := Lib.hid (show ∀ x ∈ f, x.l.length ≤ 9000000000000000000 from HL.out f (List.mem_of_getElem? hf))
            have HFJ := Lib.hid hf
            replace g0 := (hBy.cell (p := ⟨bf, off + j, none⟩) hbf).trans g0
            replace g1 := (hbw.cell (p := ⟨bk, offk + j, none⟩) hbk).trans g1
            have hjk : (j : Int) < ks.length := by have := hlk.out; omega
            have HFV := Lib.hid (hFV.below (w' := wr) ⟨hBy.os, hBy.tape, hBy.output, hBy.size, hBy.block⟩)
            obtain ⟨oaj, capj, bj, offj, rfl, q1, q2, -, -⟩ := hFV
            clear hf hkz
            go_wp2
            go_still_tail 7, (by kernel_rfl)
            change wpList _ _ _ _ _ wr.drew
            have hbd : Below wp.heap.size wp wr.drew := hbw.drew
            have hcc := Lib.hid (fn_any wr.drew (.slice (some ⟨bf, off, none⟩) p.fs.length capf) (.slice (some ⟨bk, offk, none⟩) ks.length capk) (.slice oaj f.length capj) oac p.cs.length capc ks (HIK2.out.below hbd) f (HFV.out.below ((Below.refl _ _).drew)) HLB.out kz (HT.out.below (w' := wr.drew) (B := w.heap.size) ⟨hBy.os, hBy.tape, hBy.output, hBy.size, hBy.block⟩ hts))
            go_wp2_with fail
            refine hcc.out.mono ?_
            clear hcc
            rintro e w3 ⟨b3, rfl, hiff, hb3⟩
            replace hiff := Lib.hid hiff
            have hb4 := hbd.trans (hb3.mono hbd.size)
            clear hb3 hbd g0 g1 v0 v1 v2 hbw
            cases b3 with
            | false =>
              go_wp2
              go_returns
              exact ⟨false, rfl, ⟨fun h => (by cases h), fun h => by
                have h2 := h.fn j f HFJ.out
                rw [← HKS.out, HKZ.out] at h2
                exact absurd (hiff.out.2 h2) (by simp)⟩, hBw.trans (hb4.mono hBw.size)⟩
            | true =>
              go_wp2
              go_roundw
              case rel =>
                refine ⟨j + 1, by omega, by go_num, fun i g hi hg => ?_, hb4⟩
                by_cases e : i = j
                · subst e
                  rw [HFJ.out] at hg
                  cases hg
                  rw [HKZ.out]
                  exact hiff.out.1 (by simp)
                · exact HFO.out i g (by omega) hg
              case measure => simp [intOf]; omega
          · have t2 : decide ((j : Int) < p.fs.length) = false := by simp; omega
            obtain rfl : j = p.fs.length := by omega
            go_wp2
            go_ret
            exact ⟨true, rfl, ⟨fun _ => ⟨hfn, hcn, by rw [← HKS.out]; exact HSO.out, fun i f hf => by rw [← HKS.out]; exact HFO.out i f (List.getElem?_eq_some_iff.1 hf).1 hf⟩, fun _ => rfl⟩, hBy⟩
end Go.Proofs.YtgpkhdccchpljaaDoor.C
