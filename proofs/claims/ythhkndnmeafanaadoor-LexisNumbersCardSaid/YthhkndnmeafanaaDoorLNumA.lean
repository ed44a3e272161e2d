/-
  LexisNumbers answers true for every input. No conditions.
-/
import Derived.Test.YthhkndnmeafanaaDoorLWorks
import Derived.Test.YthhkndnmeafanaaDoorLClose
import Derived.Test.YthhkndnmeafanaaDoorCards
import Derived.Test.YthhkndnmeafanaaDoorTie
import Derived.SevenTiedAt
import Derived.ChangeMaps5
import Derived.Deep.Cut
import Derived.Lib.ItoaMem
import Derived.Lib.ItoaLen
import Derived.Laws.IdiomStrings
import Derived.Laws.Concat
namespace Go.Proofs.YthhkndnmeafanaaDoor
open Go.RowKit Go.ChangeShapes Go.WideShapes Go.ChangeAt

theorem alloc_cell0 (W : World) (v : Value) (t : TypeId) : (W.alloc (.cells #[v] t)).cell? ⟨W.heap.size, 0, none⟩ = some v := alloc_cell W #[v] t 0 v rfl
/-- the loop's state: m is left, s is written -/
def DgInv (u m : Nat) (s : List UInt8) : Prop := (s = [] ∧ m = u) ∨ (s ≠ [] ∧ (if m = 0 then [] else Lib.decDigits m) ++ s = Lib.decDigits u)

theorem dg_big {m : Nat} (h : ¬ m < 10) : Lib.decDigits m = Lib.decDigits (m / 10) ++ [UInt8.ofNat (48 + m % 10)] := by rw [Lib.decDigits, dif_neg h]
theorem DgInv.step {u m : Nat} {s : List UInt8} (h : DgInv u m s) (hgo : 0 < m ∨ s = []) : DgInv u (m / 10) (UInt8.ofNat (48 + m % 10) :: s) := by
  have hd : (if m / 10 = 0 then [] else Lib.decDigits (m / 10)) ++ [UInt8.ofNat (48 + m % 10)] = Lib.decDigits m := by
    by_cases h10 : m < 10
    · rw [if_pos (by omega), Lib.decDigits_one h10, Nat.mod_eq_of_lt h10]; rfl
    · rw [if_neg (by omega), dg_big h10]
  refine .inr ⟨by simp, ?_⟩
  have e : ∀ t : List UInt8, t ++ UInt8.ofNat (48 + m % 10) :: s = (t ++ [UInt8.ofNat (48 + m % 10)]) ++ s := fun t => by simp
  rw [e, hd]
  rcases h with ⟨rfl, rfl⟩ | ⟨h1, h2⟩
  · simp
  · rcases hgo with h3 | h3
    · rw [if_neg (by omega)] at h2; exact h2
    · exact absurd h3 h1
theorem DgInv.fin {u : Nat} {s : List UInt8} (h : DgInv u 0 s) (hs : s ≠ []) : s = Lib.decDigits u := by
  rcases h with ⟨h1, _⟩ | ⟨_, h2⟩
  · exact absurd h1 hs
  · simpa using h2
theorem DgInv.len {u m : Nat} {s : List UInt8} (h : DgInv u m s) (hu : u < 9223372036854775808) : s.length ≤ 21 := by
  rcases h with ⟨rfl, _⟩ | ⟨_, h2⟩
  · simp
  · have h3 := Lib.itoa_length_le (u : Int) (by omega) (by omega)
    rw [Lib.itoa_nonneg, ← h2, List.length_append] at h3
    omega

def emp : Value → Nat
  | .string s => if s.size = 0 then 1 else 0
  | _ => 0

theorem add_text (l m : List UInt8) (h : l.length + m.length ≤ 1000000000) (W : World) : (Op.stringOp .add (strB l) (strB m)).run Tryd.prog W = .ok (.string (strB (l ++ m))) W := by
  rw [run_string_add_sum W _ _ (by simp [strB, ByteArray.size]; omega), strB, strB, ByteArray.mk_append_mk]
  simp [strB]
theorem strB_isEmpty (l : List UInt8) : (strB l).toList.isEmpty = l.isEmpty := by rw [ByteArray.toList_eq]; rfl
theorem emp_strB (l : List UInt8) : emp (.string (strB l)) = if l = [] then 1 else 0 := by
  cases l <;> rfl
theorem conv_byte (z d : Nat) (hz : z = 48 + d) (hd : d < 10) (W : World) (v : Int) (hv : v = z) : (convert 33 9 (.slice (some ⟨W.heap.size, 0, none⟩) 1 1)).run Tryd.prog (W.alloc (.cells #[.int .u8 v] 5)) = .ok (.string (strB [UInt8.ofNat z])) (W.alloc (.cells #[.int .u8 v] 5)) := by
  subst hz hv
  have := run_convert_bytes_back (P := Tryd.prog) (W.alloc (.cells #[.int .u8 ((48 + d : Nat) : Int)] 5)) 33 9 5 ⟨W.heap.size, 0, none⟩ 1 [UInt8.ofNat (48 + d)] Tryd.underlying33 Tryd.underlying5 Tryd.underlying9 (fun j hj => by
    obtain rfl : j = 0 := by simpa using hj
    have h1 : (UInt8.ofNat (48 + d)).toNat = 48 + d := by rw [UInt8.toNat_ofNat']; omega
    show (W.alloc (.cells #[.int .u8 ((48 + d : Nat) : Int)] 5)).cell? ⟨W.heap.size, 0, none⟩ = _
    rw [alloc_cell0]
    simp only [List.getElem_cons_zero, h1])
  exact this

/-- What the digits say. -/
theorem decDigits_num (n : Nat) : numV (Lib.decDigits n) = n ∧ (∀ c ∈ Lib.decDigits n, digitB c = true) ∧ Lib.decDigits n ≠ [] := by
  induction n using Nat.strongRecOn with
  | _ n ih =>
    have hb : ∀ d, d < 10 → digitB (UInt8.ofNat (48 + d)) = true ∧ (UInt8.ofNat (48 + d)).toNat - 48 = d := fun d hd => by
      have h1 : (UInt8.ofNat (48 + d)).toNat = 48 + d := by rw [UInt8.toNat_ofNat']; omega
      exact ⟨by simp only [digitB, h1, decide_eq_true_eq]; omega, by omega⟩
    by_cases h : n < 10
    · rw [Lib.decDigits_one h]
      exact ⟨by rw [numV_cons, (hb n h).2]; simp [numV], by simpa using (hb n h).1, by simp⟩
    · rw [dg_big h]
      obtain ⟨h1, h2, _⟩ := ih (n / 10) (by omega)
      refine ⟨by rw [numV_snoc, h1, (hb _ (by omega)).2]; omega, fun c hc => ?_, by simp⟩
      rcases List.mem_append.1 hc with hc | hc
      · exact h2 c hc
      · rw [List.mem_singleton.1 hc]
        exact (hb _ (by omega)).1

theorem numbers_lex (n z : Nat) (hn : n < 9223372036854775808) (hz : z ≤ 100) : lexL (List.replicate z 48 ++ Lib.decDigits n) = .good [⟨2, List.replicate z 48 ++ Lib.decDigits n, n, 0⟩] := by
  obtain ⟨h1, h2, h3⟩ := decDigits_num n
  have hl : (Lib.decDigits n).length ≤ 21 := (show DgInv n 0 (Lib.decDigits n) from .inr ⟨h3, by simp⟩).len hn
  have h := lexL_number (l := List.replicate z 48 ++ Lib.decDigits n) (by simp [h3]) (fun c hc => by
    rcases List.mem_append.1 hc with hc | hc
    · rw [List.eq_of_mem_replicate hc]; rfl
    · exact h2 c hc) (by rw [numV_zeros, h1]; exact hn) (by simp; omega)
  rw [numV_zeros, h1] at h
  exact h

theorem info5 : (Tryd.prog.info? 5).map (fun i => (i.zero, i.size, i.bytes)) = some (some (.int .u8 0), 1, 1) := by kernel_rfl

/-- Noughts that are being written: j of them stand. -/
def nil0 (z j : Nat) : List Value := List.replicate j (.int .u8 48) ++ List.replicate (z - j) (.int .u8 0)
theorem nil0_zero (z : Nat) : madeCells #[.int .u8 0] z = (nil0 z 0).toArray := by
  apply Array.ext_getElem?
  intro i
  by_cases hi : i < z
  · simp only [List.getElem?_toArray, nil0, List.replicate_zero, List.nil_append, Nat.sub_zero, List.getElem?_replicate, hi, if_true]
    simp only [madeCells, Array.getElem?_map, Array.getElem?_range, hi, if_true, Option.map_some]
    show some (#[Value.int IntKind.u8 0][i % 1]!) = _
    rw [Nat.mod_one]
    rfl
  · rw [Array.getElem?_eq_none (by rw [size_madeCells]; omega), Array.getElem?_eq_none (by simp [nil0]; omega)]
theorem nil0_set (z j : Nat) (hj : j < z) : (nil0 z j).toArray.setIfInBounds j (.int .u8 48) = (nil0 z (j + 1)).toArray := by
  rw [List.setIfInBounds_toArray]
  congr 1
  rw [nil0, List.set_append_right _ _ (by simp), List.length_replicate, Nat.sub_self]
  obtain ⟨k, hk⟩ : ∃ k, z - j = k + 1 := ⟨z - j - 1, by omega⟩
  rw [hk, List.replicate_succ, List.set_cons_zero, nil0, List.replicate_succ', List.append_assoc, show z - (j + 1) = k by omega]
  rfl
theorem make_noughts (w : World) (n : Nat) (hn : n ≤ 100) :
    (Instr.makeSlice 33 (.int .i64 n) (.int .i64 n)).run Tryd.prog w = .ok (.slice (some ⟨w.heap.size, 0, none⟩) n n) (w.alloc (.cells (nil0 n 0).toArray 5)) := by
  obtain ⟨i, hi, hz, hs, hb⟩ := info_parts info5
  have h := run_make (P := Tryd.prog) w 33 5 i _ Tryd.underlying33 hi hz .i64 .i64 n n (by omega) (by omega) (by rw [hb]; omega) (by omega)
  rw [hs] at h
  simpa [nil0_zero, Value.cells] using h

end Go.Proofs.YthhkndnmeafanaaDoor
