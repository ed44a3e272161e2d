/-
  register, count, labels, allowed, fields of the document's own. Conditions: in fields the operation is known.
-/
import Derived.Test.YtobhfmliaecbjaaDoorInstr
import Derived.Test.YtobhfmliaecbjaaDoorRefS
import Derived.Deep.QuietTactic
import Derived.BigQuiet
namespace Go.Proofs.YtobhfmliaecbjaaDoor
open Go.RowKit

theorem register_any (n : Int) (w : World) : Calls Tryd.prog 54 #[.int .i64 n] w fun e w' => e = .returned (.bool (below n 16)) ∧ w' = w := by
  by_cases h0 : 0 ≤ n
  · have t0 : decide (n ≥ 0) = true := by simpa using h0
    by_cases h1 : n < 16
    · have t1 : decide (n < 16) = true := by simpa using h1
      go_enter Tryd.func54, Tryd.ntmps54
      go_wp2
      go_ret
      exact ⟨by simp [below, h0, h1], rfl⟩
    · have t1 : decide (n < 16) = false := by simpa using h1
      go_enter Tryd.func54, Tryd.ntmps54
      go_wp2
      go_ret
      exact ⟨by simp [below, h1], rfl⟩
  · have t0 : decide (n ≥ 0) = false := by simpa using h0
    go_enter Tryd.func54, Tryd.ntmps54
    go_wp2
    go_ret
    exact ⟨by simp [below]; omega, rfl⟩
theorem count_any (n : Int) (w : World) : Calls Tryd.prog 55 #[.int .i64 n] w fun e w' => e = .returned (.bool (below n 1048577)) ∧ w' = w := by
  by_cases h0 : 0 ≤ n
  · have t0 : decide (n ≥ 0) = true := by simpa using h0
    by_cases h1 : n ≤ 1048576
    · have t1 : decide (n ≤ 1048576) = true := by simpa using h1
      go_enter Tryd.func55, Tryd.ntmps55
      go_wp2
      go_ret
      exact ⟨by simp [below]; omega, rfl⟩
    · have t1 : decide (n ≤ 1048576) = false := by simpa using h1
      go_enter Tryd.func55, Tryd.ntmps55
      go_wp2
      go_ret
      exact ⟨by simp [below]; omega, rfl⟩
  · have t0 : decide (n ≥ 0) = false := by simpa using h0
    go_enter Tryd.func55, Tryd.ntmps55
    go_wp2
    go_ret
    exact ⟨by simp [below]; omega, rfl⟩

def labN (op : Int) : Int := if op = 8 ∨ op = 9 ∨ op = 10 ∨ op = 13 ∨ op = 14 ∨ op = 23 ∨ op = 24 then 1 else if op = 15 then -1 else 0

set_option maxHeartbeats 1000000 in
theorem labels_any (x : In) (lv : Value) (w : World) : Calls Tryd.prog 44 #[x.val lv] w fun e w' => e = .returned (.int .i64 (labN x.op)) ∧ Below w.heap.size w w' := by
  unfold In.val
  go_enter Tryd.func44, Tryd.ntmps44
  go_wp2
  all_goals go_ret
  all_goals refine ⟨?_, alloc_below _ _⟩
  all_goals go_light
  all_goals simp only [beq_iff_eq, beq_eq_false_iff_ne] at *
  all_goals (show Ending.returned (Value.int .i64 _) = Ending.returned (Value.int .i64 _); congr 2; simp_all [labN])

set_option maxHeartbeats 1000000 in
theorem allowed_any (k : Int) (x : In) (lv : Value) (w : World) : Calls Tryd.prog 46 #[.int .i64 k, x.val lv] w fun e w' => e = .returned (.bool (standsB x.op k)) ∧ Below w.heap.size w w' := by
  unfold In.val
  go_enter Tryd.func46, Tryd.ntmps46
  go_wp2
  all_goals go_ret
  all_goals refine ⟨?_, alloc_below _ _⟩
  all_goals go_light
  all_goals (show Ending.returned (Value.bool _) = Ending.returned (Value.bool _); congr 2; simp_all [standsB])

theorem defField : ∀ k : Fin 30, k.val ∉ [0, 1, 2, 5, 6, 3, 4, 21, 24, 7, 16, 8, 9, 10, 11, 12, 13, 27, 28, 29, 19, 22, 26] → (tab.getD k.val ⟨0, 0, 0, 0⟩).f0 = 1 ∧ (tab.getD k.val ⟨0, 0, 0, 0⟩).f1 = 0 ∧ (tab.getD k.val ⟨0, 0, 0, 0⟩).f2 = 0 := by decide
theorem shp_def (op : Int) (hk : known op = true) (h : ∀ k : Nat, k ∈ [0, 1, 2, 5, 6, 3, 4, 21, 24, 7, 16, 8, 9, 10, 11, 12, 13, 27, 28, 29, 19, 22, 26] → op ≠ k) : (shp op).f0 = 1 ∧ (shp op).f1 = 0 ∧ (shp op).f2 = 0 := by
  have h01 : 0 ≤ op ∧ op < 30 := by simpa [known] using hk
  obtain ⟨k, rfl⟩ : ∃ k : Nat, op = k := ⟨op.toNat, by omega⟩
  have := defField ⟨k, by omega⟩ (fun hm => h k hm rfl)
  rw [shp, if_pos (by omega)]
  exact this
/-- the same as what the code asks, where each function counts as one that may be called -/
def fieldsR (nc nf : Nat) (x : In) : Bool := fldB nc (List.replicate nf 0) x 3
theorem fits7 (nc nf : Nat) (n : Int) : fitsB nc (List.replicate nf 0) n 7 = below n nf := by
  unfold fitsB isB
  simp only [show ¬ (7 : Int) = 0 by decide, show ¬ ((7 : Int) = 1 ∨ (7 : Int) = 2) by decide, show ¬ (7 : Int) = 4 by decide, show ¬ (7 : Int) = 5 by decide, show ¬ (7 : Int) = 6 by decide, if_false, if_true, List.length_replicate]
  cases hb : below n nf with
  | false => rfl
  | true =>
    have h01 : 0 ≤ n ∧ n < nf := by simpa [below] using hb
    have : (List.replicate nf (0 : Int)).getD n.toNat 0 = 0 := by rw [List.getD_eq_getElem?_getD, List.getElem?_replicate]; split <;> rfl
    rw [this]; rfl

theorem bel_true {n m : Int} (h0 : 0 ≤ n) (h1 : n < m) : below n m = true := by simp [below, h0, h1]

set_option maxRecDepth 100000 in
set_option maxHeartbeats 8000000 in
theorem fields_most (w : World) (oaf oac : Option Addr) (nf nc capf capc : Nat) (x : In) (lv : Value) (hk : known x.op = true) (h22 : (x.op == 22) = false) (h26 : (x.op == 26) = false) : Calls Tryd.prog 45 #[.agg #[.slice oaf nf capf, .slice oac nc capc], x.val lv] w fun e w' => e = .returned (.bool (fieldsR nc nf x)) ∧ Below w.heap.size w w' := by
  have HK := Lib.hid hk
  have hbn := Lib.hid (show ∀ (c1 c2 : Array Value) (n : Nat), Below w.heap.size w (((w.alloc (.cells c1 35)).alloc (.cells c2 25)).drewN n) from fun c1 c2 n => by
    have hb : Below w.heap.size w ((w.alloc (.cells c1 35)).alloc (.cells c2 25)) := (alloc_below _ _).alloc (by simp) _
    exact ⟨hb.os, hb.tape, hb.output, hb.size, hb.block⟩)
  unfold In.val
  clear hk
  go_enter Tryd.func45, Tryd.ntmps45
  go_wp2_with fail
  all_goals go_quiet (first | (go_at_call 54; refine Calls.quiet_of_same (register_any _ _)) | (go_at_call 55; refine Calls.quiet_of_same (count_any _ _)))
  all_goals (go_wp2_with fail)
  all_goals go_ret
  all_goals refine ⟨?_, hbn.out _ _ _⟩
  all_goals go_light
  all_goals simp only [beq_iff_eq, beq_eq_false_iff_ne] at *
  all_goals show Ending.returned (Value.bool _) = Ending.returned (Value.bool _)
  all_goals congr 2
  all_goals first
    | (simp_all [fieldsR, fldB, fitsB, shp, tab]; done)
    | (obtain ⟨d0, d1, d2⟩ := shp_def x.op HK.out (by intro k hk; simp only [List.mem_cons, List.not_mem_nil, or_false] at hk; omega); simp_all [fieldsR, fldB, fitsB]; done)
    | (have h19 : x.op = 19 := by assumption
       have hb : decide (0 ≤ x.b) = false := by simp; omega
       simp [fieldsR, fldB, fitsB, shp, tab, h19, hb])

set_option maxRecDepth 100000 in
set_option maxHeartbeats 8000000 in
theorem fields_22 (w : World) (oaf oac : Option Addr) (nf nc capf capc : Nat) (a b c : Int) (l : List Int) (lv : Value) : Calls Tryd.prog 45 #[.agg #[.slice oaf nf capf, .slice oac nc capc], (In.mk 22 a b c l).val lv] w fun e w' => e = .returned (.bool (fieldsR nc nf ⟨22, a, b, c, l⟩)) ∧ Below w.heap.size w w' := by
  have hbn := Lib.hid (show ∀ (c1 c2 : Array Value) (n : Nat), Below w.heap.size w (((w.alloc (.cells c1 35)).alloc (.cells c2 25)).drewN n) from fun c1 c2 n => by
    have hb : Below w.heap.size w ((w.alloc (.cells c1 35)).alloc (.cells c2 25)) := (alloc_below _ _).alloc (by simp) _
    exact ⟨hb.os, hb.tape, hb.output, hb.size, hb.block⟩)
  have hF : Hid (fieldsR nc nf ⟨22, a, b, c, l⟩ = (below a 16 && below b nc && (c == 0))) := Lib.hid (by simp [fieldsR, fldB, fitsB, shp, tab])
  unfold In.val
  by_cases h0 : 0 ≤ b
  · have t0 : decide (b ≥ 0) = true := by simpa using h0
    by_cases h1 : b < nc
    · have t1 : decide (b < (nc : Int)) = true := by simpa using h1
      have hB : Hid (below b nc = true) := Lib.hid (bel_true h0 h1)
      go_enter Tryd.func45, Tryd.ntmps45
      go_wp2_with fail
      all_goals go_quiet (first | (go_at_call 54; refine Calls.quiet_of_same (register_any _ _)) | (go_at_call 55; refine Calls.quiet_of_same (count_any _ _)))
      all_goals (go_wp2_with fail)
      all_goals go_ret
      all_goals refine ⟨?_, hbn.out _ _ _⟩
      all_goals go_light
      all_goals show Ending.returned (Value.bool _) = Ending.returned (Value.bool _)
      all_goals congr 2
      all_goals (rw [hF.out, hB.out]; simp_all)
    · have t1 : decide (b < (nc : Int)) = false := by simpa using h1
      have hB : Hid (below b nc = false) := Lib.hid (by simp [below]; omega)
      go_enter Tryd.func45, Tryd.ntmps45
      go_wp2_with fail
      all_goals go_quiet (first | (go_at_call 54; refine Calls.quiet_of_same (register_any _ _)) | (go_at_call 55; refine Calls.quiet_of_same (count_any _ _)))
      all_goals (go_wp2_with fail)
      all_goals go_ret
      all_goals refine ⟨?_, hbn.out _ _ _⟩
      all_goals go_light
      all_goals show Ending.returned (Value.bool _) = Ending.returned (Value.bool _)
      all_goals congr 2
      all_goals (rw [hF.out, hB.out]; simp_all)
  · have t0 : decide (b ≥ 0) = false := by simpa using h0
    have hB : Hid (below b nc = false) := Lib.hid (by simp [below]; omega)
    go_enter Tryd.func45, Tryd.ntmps45
    go_wp2_with fail
    all_goals go_quiet (first | (go_at_call 54; refine Calls.quiet_of_same (register_any _ _)) | (go_at_call 55; refine Calls.quiet_of_same (count_any _ _)))
    all_goals (go_wp2_with fail)
    all_goals go_ret
    all_goals refine ⟨?_, hbn.out _ _ _⟩
    all_goals go_light
    all_goals show Ending.returned (Value.bool _) = Ending.returned (Value.bool _)
    all_goals congr 2
    all_goals (rw [hF.out, hB.out]; simp_all)
set_option maxRecDepth 100000 in
set_option maxHeartbeats 8000000 in
theorem fields_26 (w : World) (oaf oac : Option Addr) (nf nc capf capc : Nat) (a b c : Int) (l : List Int) (lv : Value) : Calls Tryd.prog 45 #[.agg #[.slice oaf nf capf, .slice oac nc capc], (In.mk 26 a b c l).val lv] w fun e w' => e = .returned (.bool (fieldsR nc nf ⟨26, a, b, c, l⟩)) ∧ Below w.heap.size w w' := by
  have hbn := Lib.hid (show ∀ (c1 c2 : Array Value) (n : Nat), Below w.heap.size w (((w.alloc (.cells c1 35)).alloc (.cells c2 25)).drewN n) from fun c1 c2 n => by
    have hb : Below w.heap.size w ((w.alloc (.cells c1 35)).alloc (.cells c2 25)) := (alloc_below _ _).alloc (by simp) _
    exact ⟨hb.os, hb.tape, hb.output, hb.size, hb.block⟩)
  have hF : Hid (fieldsR nc nf ⟨26, a, b, c, l⟩ = (below a 16 && below b nf && (c == 0))) := Lib.hid (by have h7 := fits7 nc nf b; simp [fieldsR, fldB, shp, tab, h7]; simp [fitsB])
  unfold In.val
  by_cases h0 : 0 ≤ b
  · have t0 : decide (b ≥ 0) = true := by simpa using h0
    by_cases h1 : b < nf
    · have t1 : decide (b < (nf : Int)) = true := by simpa using h1
      have hB : Hid (below b nf = true) := Lib.hid (bel_true h0 h1)
      go_enter Tryd.func45, Tryd.ntmps45
      go_wp2_with fail
      all_goals go_quiet (first | (go_at_call 54; refine Calls.quiet_of_same (register_any _ _)) | (go_at_call 55; refine Calls.quiet_of_same (count_any _ _)))
      all_goals (go_wp2_with fail)
      all_goals go_ret
      all_goals refine ⟨?_, hbn.out _ _ _⟩
      all_goals go_light
      all_goals show Ending.returned (Value.bool _) = Ending.returned (Value.bool _)
      all_goals congr 2
      all_goals (rw [hF.out, hB.out]; simp_all)
    · have t1 : decide (b < (nf : Int)) = false := by simpa using h1
      have hB : Hid (below b nf = false) := Lib.hid (by simp [below]; omega)
      go_enter Tryd.func45, Tryd.ntmps45
      go_wp2_with fail
      all_goals go_quiet (first | (go_at_call 54; refine Calls.quiet_of_same (register_any _ _)) | (go_at_call 55; refine Calls.quiet_of_same (count_any _ _)))
      all_goals (go_wp2_with fail)
      all_goals go_ret
      all_goals refine ⟨?_, hbn.out _ _ _⟩
      all_goals go_light
      all_goals show Ending.returned (Value.bool _) = Ending.returned (Value.bool _)
      all_goals congr 2
      all_goals (rw [hF.out, hB.out]; simp_all)
  · have t0 : decide (b ≥ 0) = false := by simpa using h0
    have hB : Hid (below b nf = false) := Lib.hid (by simp [below]; omega)
    go_enter Tryd.func45, Tryd.ntmps45
    go_wp2_with fail
    all_goals go_quiet (first | (go_at_call 54; refine Calls.quiet_of_same (register_any _ _)) | (go_at_call 55; refine Calls.quiet_of_same (count_any _ _)))
    all_goals (go_wp2_with fail)
    all_goals go_ret
    all_goals refine ⟨?_, hbn.out _ _ _⟩
    all_goals go_light
    all_goals show Ending.returned (Value.bool _) = Ending.returned (Value.bool _)
    all_goals congr 2
    all_goals (rw [hF.out, hB.out]; simp_all)

theorem fields_any (w : World) (oaf oac : Option Addr) (nf nc capf capc : Nat) (x : In) (lv : Value) (hk : known x.op = true) : Calls Tryd.prog 45 #[.agg #[.slice oaf nf capf, .slice oac nc capc], x.val lv] w fun e w' => e = .returned (.bool (fieldsR nc nf x)) ∧ Below w.heap.size w w' := by
  by_cases h1 : x.op = 22
  · obtain ⟨op, a, b, c, l⟩ := x
    obtain rfl : op = 22 := h1
    exact fields_22 w oaf oac nf nc capf capc a b c l lv
  · by_cases h2 : x.op = 26
    · obtain ⟨op, a, b, c, l⟩ := x
      obtain rfl : op = 26 := h2
      exact fields_26 w oaf oac nf nc capf capc a b c l lv
    · exact fields_most w oaf oac nf nc capf capc x lv hk (by simpa using h1) (by simpa using h2)
end Go.Proofs.YtobhfmliaecbjaaDoor
