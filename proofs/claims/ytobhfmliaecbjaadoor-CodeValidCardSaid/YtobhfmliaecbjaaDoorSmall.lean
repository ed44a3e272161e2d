/-
  The small functions of package code: below, stands, with, has, fieldsOf, Falls. No conditions.
-/
import Derived.Test.YtobhfmliaecbjaaDoorBase
import Derived.Deep.Light
import Derived.Lib.EndianBits
import Derived.Laws.BitsAllLaws
namespace Go.Proofs.YtobhfmliaecbjaaDoor
open Go.RowKit

def In.val (x : In) (lv : Value) : Value := .agg #[.int .i64 x.op, .int .i64 x.a, .int .i64 x.b, .int .i64 x.c, lv]

/-- the numbers of a slice -/
def IntsV (w : World) (v : Value) (l : List Int) : Prop :=
  ∃ oa cap b off, v = .slice oa l.length cap ∧ l.length ≤ cap ∧ cap ≤ maxLen ∧ (0 < l.length → oa = some ⟨b, off, none⟩ ∧ b < w.heap.size) ∧ ∀ i z, l[i]? = some z → w.cell? ⟨b, off + i, none⟩ = some (.int .i64 z)

theorem IntsV.below {w w' : World} {v : Value} {l : List Int} (h : IntsV w v l) (hb : Below w.heap.size w w') : IntsV w' v l := by
  obtain ⟨oa, cap, b, off, rfl, h1, h2, h3, h4⟩ := h
  refine ⟨oa, cap, b, off, rfl, h1, h2, fun h => ⟨(h3 h).1, Nat.lt_of_lt_of_le (h3 h).2 hb.size⟩, fun i z hz => ?_⟩
  exact (hb.cell (p := ⟨b, off + i, none⟩) (h3 (by have := (List.getElem?_eq_some_iff.1 hz).1; omega)).2).trans (h4 i z hz)

def below (n m : Int) : Bool := decide (0 ≤ n) && decide (n < m)

theorem below_any (n m : Int) (w : World) : Calls Tryd.prog 31 #[.int .i64 n, .int .i64 m] w fun e w' => e = .returned (.bool (below n m)) ∧ w' = w := by
  by_cases h0 : 0 ≤ n
  · have t0 : decide (n ≥ 0) = true := by simpa using h0
    by_cases h1 : n < m
    · have t1 : decide (n < m) = true := by simpa using h1
      go_enter Tryd.func31, Tryd.ntmps31
      go_wp2
      go_ret
      exact ⟨by simp [below, h0, h1], rfl⟩
    · have t1 : decide (n < m) = false := by simpa using h1
      go_enter Tryd.func31, Tryd.ntmps31
      go_wp2
      go_ret
      exact ⟨by simp [below, h0, h1], rfl⟩
  · have t0 : decide (n ≥ 0) = false := by simpa using h0
    go_enter Tryd.func31, Tryd.ntmps31
    go_wp2
    go_ret
    exact ⟨by simp [below]; omega, rfl⟩

def standsB (op k : Int) : Bool :=
  if op = 1 then k != 0 else if op = 20 ∨ op = 21 ∨ op = 23 ∨ op = 24 ∨ op = 27 ∨ op = 28 then k == 1 else if op = 29 then k != 1 else true

set_option maxHeartbeats 1000000 in
theorem stands_any (op k : Int) (w : World) : Calls Tryd.prog 50 #[.int .i64 op, .int .i64 k] w fun e w' => e = .returned (.bool (standsB op k)) ∧ w' = w := by
  go_enter Tryd.func50, Tryd.ntmps50
  go_wp2
  all_goals go_ret
  all_goals refine ⟨?_, rfl⟩
  all_goals go_light
  all_goals (show Ending.returned (Value.bool _) = Ending.returned (Value.bool _); congr 2; simp_all [standsB])

def fallsB (op : Int) : Bool := known op && !(op == 13 || op == 15 || op == 27 || op == 28 || op == 29)

set_option maxHeartbeats 1000000 in
theorem falls_any (x : In) (lv : Value) (w : World) : Calls Tryd.prog 16 #[x.val lv] w fun e w' => e = .returned (.bool (fallsB x.op)) ∧ Below w.heap.size w w' := by
  unfold In.val
  go_enter Tryd.func16, Tryd.ntmps16
  go_wp2_with (go_at_call 28; refine (known_any x.op _).mono ?_; rintro e w1 ⟨rfl, rfl⟩)
  all_goals go_ret
  all_goals go_light
  all_goals refine ⟨?_, (Below.refl _ _).alloc (Nat.le_refl _) _⟩
  all_goals (show Ending.returned (Value.bool _) = Ending.returned (Value.bool _); congr 2; simp_all [fallsB])

theorem fieldsOf_any (x : In) (lv : Value) (w : World) : Calls Tryd.prog 27 #[x.val lv] w fun e w' => e = .returned (.agg #[.int .i64 x.a, .int .i64 x.b, .int .i64 x.c]) ∧ Below w.heap.size w w' := by
  unfold In.val
  go_enter Tryd.func27, Tryd.ntmps27
  go_wp2
  go_returns
  exact ⟨rfl, ((Below.refl _ _).alloc (Nat.le_refl _) _).alloc (by simp) _⟩

theorem pow16 (r : Nat) (hr : r < 16) : (2 : Nat) ^ r < 65536 := by
  have : (2 : Nat) ^ r < 2 ^ 16 := Nat.pow_lt_pow_right (by decide) hr
  simpa using this
theorem lift_pow (r : Nat) (hr : r < 16) : IntKind.u16.wrap (2 ^ r) = ((2 ^ r : Nat) : Int) := by
  have := pow16 r hr
  rw [wraps_u16 _ (Int.le_of_lt (Int.pow_pos (by decide)))]
  · simp
  · have : ((2 ^ r : Nat) : Int) < 65536 := by omega
    simpa using this
theorem or16 (m n : Nat) (hm : m < 65536) (hn : n < 65536) : bits .or .u16 (m : Int) (n : Int) = ((m ||| n : Nat) : Int) := (bits_nat .u16 16 (by decide) wraps_u16 m n hm hn).2
theorem and16 (m n : Nat) (hm : m < 65536) (hn : n < 65536) : bits .and .u16 (m : Int) (n : Int) = ((m &&& n : Nat) : Int) := (bits_nat .u16 16 (by decide) wraps_u16 m n hm hn).1
theorem or_lt {m r : Nat} (hm : m < 65536) (hr : r < 16) : m ||| 2 ^ r < 65536 := Nat.or_lt_two_pow (n := 16) hm (pow16 r hr)

theorem with_any (m r : Nat) (hm : m < 65536) (hr : r < 16) (w : World) : Calls Tryd.prog 42 #[.int .u16 m, .int .i64 r] w fun e w' => e = .returned (.int .u16 ((m ||| 2 ^ r : Nat) : Int)) ∧ w' = w := by
  have h0 : (0 : Int) ≤ r := by omega
  have e := (congrArg (bits .or .u16 (m : Int)) (lift_pow r hr)).trans (or16 m (2 ^ r) hm (pow16 r hr))
  replace e := Lib.hid e
  go_enter Tryd.func42, Tryd.ntmps42
  go_wp2
  go_ret
  refine ⟨?_, rfl⟩
  rw [← e.out]
  rfl

theorem has_any (m r : Nat) (hm : m < 65536) (hr : r < 16) (w : World) : Calls Tryd.prog 53 #[.int .u16 m, .int .i64 r] w fun e w' => e = .returned (.bool (m.testBit r)) ∧ w' = w := by
  have h0 : (0 : Int) ≤ r := by omega
  have e : (bits .and .u16 ((m : Int) / 2 ^ r) 1 == 1) = m.testBit r := by
    have h2 : ((m : Int) / 2 ^ r) = ((m / 2 ^ r : Nat) : Int) := by simp
    have h3 : m / 2 ^ r < 65536 := Nat.lt_of_le_of_lt (Nat.div_le_self _ _) hm
    rw [h2, show (1 : Int) = ((1 : Nat) : Int) from rfl, and16 _ _ h3 (by decide), Nat.and_one_is_mod, Nat.testBit_eq_decide_div_mod_eq]
    by_cases hb : m / 2 ^ r % 2 = 1
    · simp [hb]
    · have : m / 2 ^ r % 2 = 0 := by omega
      simp [this]
  replace e := Lib.hid e
  go_enter Tryd.func53, Tryd.ntmps53
  go_wp2
  go_ret
  refine ⟨?_, rfl⟩
  rw [← e.out]
  rfl

theorem andNot16 (m n : Nat) (hm : m < 65536) (hn : n < 65536) : (bits .andNot .u16 (m : Int) (n : Int) == 0) = true ↔ ∀ r, m.testBit r = true → n.testBit r = true := by
  have e : bits .andNot .u16 (m : Int) (n : Int) = ((m &&& (65535 - n) : Nat) : Int) := by
    show IntKind.u16.wrap ((BitVec.ofInt 16 (m : Int) &&& ~~~BitVec.ofInt 16 (n : Int)).toNat : Int) = _
    have o : ∀ k : Nat, k < 65536 → (BitVec.ofInt 16 (k : Int)).toNat = k := fun k hk => by
      simp; omega
    rw [BitVec.toNat_and, BitVec.toNat_not, o m hm, o n hn]
    have : m &&& (2 ^ 16 - 1 - n) < 65536 := Nat.lt_of_le_of_lt Nat.and_le_left hm
    exact wraps_u16 _ (by omega) (by have := this; omega)
  rw [e]
  have t : ∀ r, (m &&& (65535 - n)).testBit r = (m.testBit r && !(n.testBit r)) := fun r => by
    have h1 : (65535 - n).testBit r = (decide (r < 16) && !(n.testBit r)) := by
      have := Nat.testBit_two_pow_sub_succ (n := 16) (x := n) (by simpa using hn) r
      rwa [show 2 ^ 16 - (n + 1) = 65535 - n from by omega] at this
    rw [Nat.testBit_and, h1]
    by_cases hr : r < 16
    · simp [hr]
    · have : m.testBit r = false := Nat.testBit_lt_two_pow (Nat.lt_of_lt_of_le hm (by simpa using Nat.pow_le_pow_right (show 0 < 2 by decide) (show 16 ≤ r by omega)))
      simp [this]
  constructor
  · intro h r hr
    have h0 : m &&& (65535 - n) = 0 := by simpa using h
    have := t r
    rw [h0, Nat.zero_testBit, hr] at this
    simpa using this
  · intro h
    have h0 : m &&& (65535 - n) = 0 := Nat.eq_of_testBit_eq fun r => by
      rw [t r, Nat.zero_testBit]
      cases hr : m.testBit r with
      | false => rfl
      | true => simp [h r hr]
    simp [h0]
end Go.Proofs.YtobhfmliaecbjaaDoor
