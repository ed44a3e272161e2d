/-
  digits of the document's own: a number's numeral. Conditions: the number is an int's.
-/
import Derived.Test.YtobhfmliaecbjaaDoorLies
import Derived.Lib.ItoaMem
import Derived.Lib.ItoaLen
import Derived.Laws.IdiomStrings
import Derived.Laws.Concat
namespace Go.Proofs.YtobhfmliaecbjaaDoor
open Go.RowKit

/-- a text as a value -/
theorem alloc_cell0 (W : World) (v : Value) (t : TypeId) : (W.alloc (.cells #[v] t)).cell? ⟨W.heap.size, 0, none⟩ = some v := alloc_cell W #[v] t 0 v rfl
def tv (l : List UInt8) : Value := .string ⟨l.toArray⟩
theorem add_text (l m : List UInt8) (h : l.length + m.length ≤ 1000000000) (W : World) : (Op.stringOp .add ⟨l.toArray⟩ ⟨m.toArray⟩).run Tryd.prog W = .ok (tv (l ++ m)) W := by
  rw [run_string_add_sum W _ _ (by simp [ByteArray.size]; omega), ByteArray.mk_append_mk]
  rfl

/-- the loop's state: m is left, s is written -/
def DgInv (u m : Nat) (s : List UInt8) : Prop := (s = [] ∧ m = u) ∨ (s ≠ [] ∧ (if m = 0 then [] else Lib.decDigits m) ++ s = Lib.decDigits u)

theorem dg_big {m : Nat} (h : ¬ m < 10) : Lib.decDigits m = Lib.decDigits (m / 10) ++ [UInt8.ofNat (48 + m % 10)] := by rw [Lib.decDigits, dif_neg h]
theorem DgInv.step {u m : Nat} {s : List UInt8} (h : DgInv u m s) (hgo : 0 < m ∨ s = []) : DgInv u (m / 10) (UInt8.ofNat (48 + m % 10) :: s) := by
  have hd : (if m / 10 = 0 then [] else Lib.decDigits (m / 10)) ++ [UInt8.ofNat (48 + m % 10)] = Lib.decDigits m := by
    by_cases h10 : m < 10
    · rw [if_pos (by omega), Lib.decDigits_one h10, Nat.mod_eq_of_lt h10]; rfl
    · rw [if_neg (by omega), dg_big h10]
  refine .inr ⟨by simp, ?_⟩
  have e : ∀ t : List UInt8, t ++ UInt8.ofNat (48 + m % 10) :: s = (t ++ [UInt8.ofNat (48 + m % 10)]) ++ s := fun t => by simp
  rw [e, hd]
  rcases h with ⟨rfl, rfl⟩ | ⟨h1, h2⟩
  · simp
  · rcases hgo with h3 | h3
    · rw [if_neg (by omega)] at h2; exact h2
    · exact absurd h3 h1
theorem DgInv.fin {u : Nat} {s : List UInt8} (h : DgInv u 0 s) (hs : s ≠ []) : s = Lib.decDigits u := by
  rcases h with ⟨h1, _⟩ | ⟨_, h2⟩
  · exact absurd h1 hs
  · simpa using h2
theorem DgInv.len {u m : Nat} {s : List UInt8} (h : DgInv u m s) (hu : u < 9223372036854775808) : s.length ≤ 21 := by
  rcases h with ⟨rfl, _⟩ | ⟨_, h2⟩
  · simp
  · have h3 := Lib.itoa_length_le (u : Int) (by omega) (by omega)
    rw [Lib.itoa_nonneg, ← h2, List.length_append] at h3
    omega

def emp : Value → Nat
  | .string s => if s.size = 0 then 1 else 0
  | _ => 0

def bt (l : List UInt8) : ByteArray := ⟨l.toArray⟩
theorem bt_isEmpty (l : List UInt8) : (bt l).toList.isEmpty = l.isEmpty := by rw [ByteArray.toList_eq]; rfl
theorem emp_bt (l : List UInt8) : emp (.string (bt l)) = if l = [] then 1 else 0 := by
  cases l <;> rfl
theorem conv_byte (z d : Nat) (hz : z = 48 + d) (hd : d < 10) (W : World) (v : Int) (hv : v = z) : (convert 62 9 (.slice (some ⟨W.heap.size, 0, none⟩) 1 1)).run Tryd.prog (W.alloc (.cells #[.int .u8 v] 5)) = .ok (.string (bt [UInt8.ofNat z])) (W.alloc (.cells #[.int .u8 v] 5)) := by
  subst hz hv
  have := run_convert_bytes_back (P := Tryd.prog) (W.alloc (.cells #[.int .u8 ((48 + d : Nat) : Int)] 5)) 62 9 5 ⟨W.heap.size, 0, none⟩ 1 [UInt8.ofNat (48 + d)] Tryd.underlying62 Tryd.underlying5 Tryd.underlying9 (fun j hj => by
    obtain rfl : j = 0 := by simpa using hj
    have h1 : (UInt8.ofNat (48 + d)).toNat = 48 + d := by rw [UInt8.toNat_ofNat']; omega
    show (W.alloc (.cells #[.int .u8 ((48 + d : Nat) : Int)] 5)).cell? ⟨W.heap.size, 0, none⟩ = _
    rw [alloc_cell0]
    simp only [List.getElem_cons_zero, h1])
  exact this

set_option maxRecDepth 100000 in
set_option maxHeartbeats 2000000 in
theorem digits_nat (u : Nat) (hu : u < 9223372036854775808) (w : World) : Calls Tryd.prog 39 #[.int .i64 (u : Int)] w fun e w' => e = .returned (.string (bt (Lib.decDigits u))) ∧ Below w.heap.size w w' := by
  have t0 : decide ((u : Int) < 0) = false := by simp
  go_enter Tryd.func39, Tryd.ntmps39
  go_wp2_with fail
  go_loopw [0, 3] (fun un us wr => ∃ (m : Nat) (s : List UInt8), un = .int .i64 m ∧ us = .string (bt s) ∧ m ≤ u ∧ DgInv u m s ∧ Below w.heap.size w wr) (fun un us _ => 2 * (intOf un).toNat + emp us)
  case atStart => exact ⟨u, [], rfl, rfl, Nat.le_refl _, .inl ⟨rfl, rfl⟩, Below.refl _ _⟩
  case round =>
    obtain ⟨m, s, rfl, rfl, hm, hD, hb⟩ := hrel
    have hl := hD.len hu
    have HD := Lib.hid hD
    have hcv := conv_byte (48 + m % 10) (m % 10) rfl (by omega) wr
    have hadd : ∀ W, (Op.stringOp .add (bt [UInt8.ofNat (48 + m % 10)]) (bt s)).run Tryd.prog W = .ok (.string (bt (UInt8.ofNat (48 + m % 10) :: s))) W := fun W => by
      have := add_text [UInt8.ofNat (48 + m % 10)] s (by simp; omega) W
      exact this
    have hfin : Hid (∀ wr' : World, Below wr.heap.size wr wr' → Below w.heap.size w wr') := Lib.hid fun wr' h1 => hb.trans (h1.mono hb.size)
    obtain ⟨S', hS'⟩ : ∃ S', S' = bt (UInt8.ofNat (48 + m % 10) :: s) := ⟨_, rfl⟩
    obtain ⟨X, hX⟩ : ∃ X, X = bt [UInt8.ofNat (48 + m % 10)] := ⟨_, rfl⟩
    rw [← hX, ← hS'] at hadd
    rw [← hX] at hcv
    replace hS' := Lib.hid hS'
    clear hX hl hD
    by_cases h0 : 0 < m
    · have t1 : decide ((m : Int) > 0) = true := by simpa using h0
      replace hcv := hcv (48 + (m : Int) % 10) (by omega)
      go_wp2_with fail
      go_roundw
      case rel => exact ⟨m / 10, _, by go_num, by rw [hS'.out], by omega, HD.out.step (.inl h0), hfin.out _ (alloc_below _ _)⟩
      case measure =>
        rw [hS'.out, emp_bt, emp_bt, if_neg (by simp)]
        show 2 * ((m : Int) / 10).toNat + 0 < 2 * (m : Int).toNat + _
        split <;> omega
    · have t1 : decide ((m : Int) > 0) = false := by simpa using h0
      obtain rfl : m = 0 := by omega
      cases s with
      | nil =>
        replace hcv := hcv 48 (by simp)
        have t2 : (bt []).toList.isEmpty = true := by rw [bt_isEmpty]; rfl
        go_wp2
        go_roundw
        case rel => exact ⟨0, _, rfl, by rw [hS'.out], Nat.zero_le _, HD.out.step (.inr rfl), hfin.out _ (alloc_below _ _)⟩
        case measure =>
          rw [hS'.out, emp_bt, emp_bt, if_neg (by simp), if_pos rfl]
          simp [intOf]
      | cons c s =>
        have t2 : (bt (c :: s)).toList.isEmpty = false := by rw [bt_isEmpty]; rfl
        have hfi := Lib.hid (congrArg bt (HD.out.fin (by simp)))
        clear HD hS' hcv hadd hfin
        generalize bt (c :: s) = S at t2 hfi ⊢
        go_wp2
        go_ret
        exact ⟨by rw [← hfi.out]; rfl, hb⟩

theorem least_text : Lib.decDigits 9223372036854775808 = [57, 50, 50, 51, 51, 55, 50, 48, 51, 54, 56, 53, 52, 55, 55, 53, 56, 48, 56] := by
  rw [Lib.decDigits_eq, Lib.nDigits_unique 18 _ (by decide) (by decide)]
  decide +kernel

set_option maxRecDepth 100000 in
set_option maxHeartbeats 2000000 in
theorem digits_any (n : Int) (h : -9223372036854775808 ≤ n ∧ n ≤ 9223372036854775807) (w : World) : Calls Tryd.prog 39 #[.int .i64 n] w fun e w' => e = .returned (.string (bt (Lib.itoa n))) ∧ Below w.heap.size w w' := by
  by_cases h0 : n < 0
  · obtain ⟨u, rfl⟩ : ∃ u : Nat, n = -(u : Int) := ⟨(-n).toNat, by omega⟩
    rw [Lib.itoa_neg u (by omega)]
    have t0 : decide (-(u : Int) < 0) = true := by simpa using h0
    by_cases h1 : u = 9223372036854775808
    · subst h1
      go_enter Tryd.func39, Tryd.ntmps39
      go_wp2
      go_ret
      refine ⟨?_, Below.refl _ _⟩
      show Ending.returned (Value.string ⟨#[45, 57, 50, 50, 51, 51, 55, 50, 48, 51, 54, 56, 53, 52, 55, 55, 53, 56, 48, 56]⟩) = _
      rw [least_text]; rfl
    · have t1 : (-(u : Int) == -9223372036854775808) = false := by simp; omega
      have hd := digits_nat u (by omega) w
      have hl := Lib.itoa_length_le (u : Int) (by omega) (by omega)
      rw [Lib.itoa_nonneg] at hl
      have hadd : ∀ W, (Op.stringOp .add { data := #[45] } (bt (Lib.decDigits u))).run Tryd.prog W = .ok (.string (bt (45 :: Lib.decDigits u))) W := fun W => add_text [45] (Lib.decDigits u) (by simp; omega) W
      replace hd := Lib.hid hd
      go_enter Tryd.func39, Tryd.ntmps39
      go_wp2_with fail
      refine hd.out.mono ?_
      rintro e w1 ⟨rfl, hb⟩
      go_wp2
      go_ret
      exact ⟨rfl, hb⟩
  · obtain ⟨u, rfl⟩ : ∃ u : Nat, n = u := ⟨n.toNat, by omega⟩
    rw [Lib.itoa_nonneg]
    exact digits_nat u (by omega) w
end Go.Proofs.YtobhfmliaecbjaaDoor
