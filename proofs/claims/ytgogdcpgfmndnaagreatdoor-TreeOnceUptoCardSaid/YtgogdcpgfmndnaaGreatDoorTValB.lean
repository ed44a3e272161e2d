/-
  What could have been read: steps, places, operands, sets, fields, structs, of tree. Conditions: it lies in the heap; the package variables lie as the program's text lays them.
-/
import Derived.Test.YtgogdcpgfmndnaaGreatDoorTValA
import Derived.Test.YtgogdcpgfmndnaaGreatDoorTSameB
import Derived.Test.YtgogdcpgfmndnaaGreatDoorTAlls
namespace Go.Proofs.YtgogdcpgfmndnaaGreatDoor
open Go.RowKit
theorem enters143 (args : Array Value) (w : World) : (callFunc 143 args).run Tryz.prog w = .ok (.enter 143 args) w := Go.Proofs.enters_of Tryz.func143 (by kernel_rfl) rfl args w
theorem enters124 (args : Array Value) (w : World) : (callFunc 124 args).run Tryz.prog w = .ok (.enter 124 args) w := Go.Proofs.enters_of Tryz.func124 (by kernel_rfl) rfl args w
theorem enters74 (args : Array Value) (w : World) : (callFunc 74 args).run Tryz.prog w = .ok (.enter 74 args) w := Go.Proofs.enters_of Tryz.func74 (by kernel_rfl) rfl args w
theorem enters76 (args : Array Value) (w : World) : (callFunc 76 args).run Tryz.prog w = .ok (.enter 76 args) w := Go.Proofs.enters_of Tryz.func76 (by kernel_rfl) rfl args w
theorem enters41 (args : Array Value) (w : World) : (callFunc 41 args).run Tryz.prog w = .ok (.enter 41 args) w := Go.Proofs.enters_of Tryz.func41 (by kernel_rfl) rfl args w
theorem enters43 (args : Array Value) (w : World) : (callFunc 43 args).run Tryz.prog w = .ok (.enter 43 args) w := Go.Proofs.enters_of Tryz.func43 (by kernel_rfl) rfl args w
theorem enters45 (args : Array Value) (w : World) : (callFunc 45 args).run Tryz.prog w = .ok (.enter 45 args) w := Go.Proofs.enters_of Tryz.func45 (by kernel_rfl) rfl args w

set_option maxHeartbeats 1000000 in
theorem validStep_any (s : ByteArray) (w : World) (hV : Vz w) : Calls Tryz.prog 143 #[stepV s] w fun e w' => e = .returned (.bool (stepOk s)) ∧ Below w.heap.size w w' := by
  have hb := alloc_below w (.cells #[.string s] 58)
  have hs := Lib.hid (fun W (hW : Below w.heap.size w W) => smallN_any s W (hV.b hW))
  have HB := Lib.hid hb
  clear hb hV
  simp only [stepV, stepC]
  have HR : stepOk s = (emptyN s || smallN s) := rfl
  obtain ⟨R, hR⟩ : ∃ R, R = stepOk s := ⟨_, rfl⟩
  rw [← hR] at HR ⊢
  clear hR
  cases he : emptyN s with
  | true =>
    rw [he, Bool.true_or] at HR
    obtain rfl := empty_of he
    clear he
    replace HR := Lib.hid HR
    go_enter Tryz.func143, Tryz.ntmps143
    go_wp2_with fail
    go_ret
    exact ⟨by rw [HR.out]; first | done | rfl, HB.out⟩
  | false =>
    rw [he, Bool.false_or] at HR
    obtain ⟨e1, e2⟩ := empty_no he
    clear he
    replace HR := Lib.hid HR
    go_enter Tryz.func143, Tryz.ntmps143
    go_wp2_with (go_at_call 77; refine (hs.out _ HB.out).mono ?_; rintro e w1 ⟨rfl, rfl⟩)
    go_ret
    exact ⟨by rw [HR.out]; first | done | rfl, HB.out⟩

set_option maxRecDepth 100000 in
set_option maxHeartbeats 4000000 in
theorem validPlace_any (p : Pl5) (w : World) (hP : PlH w p) (hV : Vz w) : Calls Tryz.prog 123 #[plV p] w fun e w' => e = .returned (.bool (plOk p)) ∧ Below w.heap.size w w' := by
  obtain ⟨pn1, ph1, pp1⟩ := p
  obtain ⟨R, hR⟩ : ∃ R, R = (plOk ⟨pn1, ph1, pp1⟩) := ⟨_, rfl⟩
  rw [← hR]
  replace hR : R = ((smallN pn1) && (pp1.all stepOk)) := hR.trans (by rfl)
  have hc0 : ∀ W, Below w.heap.size w W → Calls Tryz.prog 77 #[.string pn1] W fun e w' => e = .returned (.bool (smallN pn1)) ∧ Below W.heap.size W w' := fun W hW => smallN_b pn1 W (hV.b hW)
  obtain ⟨b0, hb0⟩ : ∃ b, b = (smallN pn1) := ⟨_, rfl⟩
  rw [← hb0] at hR hc0
  clear hb0
  replace hc0 := Lib.hid hc0
  have hc1 : ∀ W, Below w.heap.size w W → Calls Tryz.prog 142 #[.slice ph1.oa pp1.length ph1.cap, .func (.func 143) #[] #[]] W fun e w' => e = .returned (.bool (pp1.all stepOk)) ∧ Below W.heap.size W w' := fun W hW => allStep_any 143 enters143 stepOk (fun _ _ => True) (fun _ _ _ _ _ => trivial) W (fun x W2 _ hW2 => validStep_any x W2 ((hV.b hW).b hW2)) ph1 pp1 (hP.below hW)
  obtain ⟨b1, hb1⟩ : ∃ b, b = (pp1.all stepOk) := ⟨_, rfl⟩
  rw [← hb1] at hR hc1
  clear hb1
  replace hc1 := Lib.hid hc1
  simp only [plV, plC]
  obtain ⟨W0, hW0⟩ : ∃ W, W = (w.alloc (.cells #[.string pn1, .slice ph1.oa pp1.length ph1.cap] 39)) := ⟨_, rfl⟩
  have HW0 : Below w.heap.size w W0 := by rw [hW0]; exact (Below.refl _ _).alloc (Nat.le_refl _) _
  replace HW0 := Lib.hid HW0
  have r0 : W0.rangeAt (w.heap.size) 0 [.string pn1, .slice ph1.oa pp1.length ph1.cap] := by
    have := rangeAt_box w [.string pn1, .slice ph1.oa pp1.length ph1.cap] 39
    rw [hW0]
    simpa using this
  have hz0 := Lib.hid (show ∀ w', Below W0.heap.size W0 w' → (w'.cell? ⟨w.heap.size, 1, none⟩ = some (.slice ph1.oa pp1.length ph1.cap)) from fun w' hb => rangeAt_below r0 hb 1 _ rfl)
  clear r0
  cases b0 with
  | false =>
    have HR := Lib.hid (show R = false by rw [hR]; first | done | rfl)
    clear hR
    go_enter Tryz.func123, Tryz.ntmps123
    go_wp2_with fail
    rw [← hW0]
    clear hW0
    refine (hc0.out _ HW0.out).mono ?_
    rintro e w1 ⟨rfl, hb1'⟩
    have B1 := Lib.hid (HW0.out.trans (hb1'.mono HW0.out.size))
    have K1 := Lib.hid hb1'
    clear hb1'
    have z0_0 := hz0.out _ K1.out
    go_wp2_with fail
    go_ret
    exact ⟨by rw [HR.out]; first | done | rfl, B1.out⟩
  | true =>
    cases b1 with
    | false =>
      have HR := Lib.hid (show R = false by rw [hR]; first | done | rfl)
      clear hR
      go_enter Tryz.func123, Tryz.ntmps123
      go_wp2_with fail
      rw [← hW0]
      clear hW0
      refine (hc0.out _ HW0.out).mono ?_
      rintro e w1 ⟨rfl, hb1'⟩
      have B1 := Lib.hid (HW0.out.trans (hb1'.mono HW0.out.size))
      have K1 := Lib.hid hb1'
      clear hb1'
      have z0_0 := hz0.out _ K1.out
      go_wp2_with fail
      refine (hc1.out _ B1.out).mono ?_
      rintro e w2 ⟨rfl, hb2'⟩
      have B2 := Lib.hid (B1.out.trans (hb2'.mono B1.out.size))
      have K2 := Lib.hid (K1.out.trans (hb2'.mono K1.out.size))
      clear hb2'
      go_wp2_with fail
      go_ret
      exact ⟨by rw [HR.out]; first | done | rfl, B2.out⟩
    | true =>
      have HR := Lib.hid (show R = true by rw [hR]; first | done | rfl)
      clear hR
      go_enter Tryz.func123, Tryz.ntmps123
      go_wp2_with fail
      rw [← hW0]
      clear hW0
      refine (hc0.out _ HW0.out).mono ?_
      rintro e w1 ⟨rfl, hb1'⟩
      have B1 := Lib.hid (HW0.out.trans (hb1'.mono HW0.out.size))
      have K1 := Lib.hid hb1'
      clear hb1'
      have z0_0 := hz0.out _ K1.out
      go_wp2_with fail
      refine (hc1.out _ B1.out).mono ?_
      rintro e w2 ⟨rfl, hb2'⟩
      have B2 := Lib.hid (B1.out.trans (hb2'.mono B1.out.size))
      have K2 := Lib.hid (K1.out.trans (hb2'.mono K1.out.size))
      clear hb2'
      go_wp2_with fail
      go_ret
      exact ⟨by rw [HR.out]; first | done | rfl, B2.out⟩

set_option maxRecDepth 100000 in
set_option maxHeartbeats 4000000 in
theorem alone_any (p : Pl5) (w : World) (hV : Vz w) : Calls Tryz.prog 125 #[plV p] w fun e w' => e = .returned (.bool (aloneB p)) ∧ Below w.heap.size w w' := by
  obtain ⟨pn1, ph1, pp1⟩ := p
  obtain ⟨R, hR⟩ : ∃ R, R = (aloneB ⟨pn1, ph1, pp1⟩) := ⟨_, rfl⟩
  rw [← hR]
  replace hR : R = ((smallN pn1) && (decide (pp1.length = 0))) := hR.trans (by rfl)
  have hc0 : ∀ W, Below w.heap.size w W → Calls Tryz.prog 77 #[.string pn1] W fun e w' => e = .returned (.bool (smallN pn1)) ∧ Below W.heap.size W w' := fun W hW => smallN_b pn1 W (hV.b hW)
  obtain ⟨b0, hb0⟩ : ∃ b, b = (smallN pn1) := ⟨_, rfl⟩
  rw [← hb0] at hR hc0
  clear hb0
  replace hc0 := Lib.hid hc0
  obtain ⟨b1, hb1⟩ : ∃ b, b = (decide (pp1.length = 0)) := ⟨_, rfl⟩
  rw [← hb1] at hR
  simp only [plV, plC]
  obtain ⟨W0, hW0⟩ : ∃ W, W = (w.alloc (.cells #[.string pn1, .slice ph1.oa pp1.length ph1.cap] 39)) := ⟨_, rfl⟩
  have HW0 : Below w.heap.size w W0 := by rw [hW0]; exact (Below.refl _ _).alloc (Nat.le_refl _) _
  replace HW0 := Lib.hid HW0
  have r0 : W0.rangeAt (w.heap.size) 0 [.string pn1, .slice ph1.oa pp1.length ph1.cap] := by
    have := rangeAt_box w [.string pn1, .slice ph1.oa pp1.length ph1.cap] 39
    rw [hW0]
    simpa using this
  have hz0 := Lib.hid (show ∀ w', Below W0.heap.size W0 w' → (w'.cell? ⟨w.heap.size, 1, none⟩ = some (.slice ph1.oa pp1.length ph1.cap)) from fun w' hb => rangeAt_below r0 hb 1 _ rfl)
  clear r0
  cases b0 with
  | false =>
    clear hb1
    have HR := Lib.hid (show R = false by rw [hR]; first | done | rfl)
    clear hR
    go_enter Tryz.func125, Tryz.ntmps125
    go_wp2_with fail
    rw [← hW0]
    clear hW0
    refine (hc0.out _ HW0.out).mono ?_
    rintro e w1 ⟨rfl, hb1'⟩
    have B1 := Lib.hid (HW0.out.trans (hb1'.mono HW0.out.size))
    have K1 := Lib.hid hb1'
    clear hb1'
    have z0_0 := hz0.out _ K1.out
    go_wp2_with fail
    go_ret
    exact ⟨by rw [HR.out]; first | done | rfl, B1.out⟩
  | true =>
    cases b1 with
    | false =>
      have tl0 : ((pp1.length : Int) == 0) = false := by have : ¬ pp1.length = 0 := of_decide_eq_false hb1.symm; simpa using this
      clear hb1
      have HR := Lib.hid (show R = false by rw [hR]; first | done | rfl)
      clear hR
      go_enter Tryz.func125, Tryz.ntmps125
      go_wp2_with fail
      rw [← hW0]
      clear hW0
      refine (hc0.out _ HW0.out).mono ?_
      rintro e w1 ⟨rfl, hb1'⟩
      have B1 := Lib.hid (HW0.out.trans (hb1'.mono HW0.out.size))
      have K1 := Lib.hid hb1'
      clear hb1'
      have z0_0 := hz0.out _ K1.out
      go_wp2_with fail
      go_ret
      exact ⟨by rw [HR.out]; first | done | rfl, B1.out⟩
    | true =>
      have tl0 : ((pp1.length : Int) == 0) = true := by have : pp1.length = 0 := (of_decide_eq_true hb1.symm); simp [this]
      clear hb1
      have HR := Lib.hid (show R = true by rw [hR]; first | done | rfl)
      clear hR
      go_enter Tryz.func125, Tryz.ntmps125
      go_wp2_with fail
      rw [← hW0]
      clear hW0
      refine (hc0.out _ HW0.out).mono ?_
      rintro e w1 ⟨rfl, hb1'⟩
      have B1 := Lib.hid (HW0.out.trans (hb1'.mono HW0.out.size))
      have K1 := Lib.hid hb1'
      clear hb1'
      have z0_0 := hz0.out _ K1.out
      go_wp2_with fail
      go_ret
      exact ⟨by rw [HR.out]; first | done | rfl, B1.out⟩

theorem plZ_H (w : World) : PlH w plZ := ⟨Nat.le_refl _, by show 0 ≤ maxLen; exact Nat.zero_le _, fun h => absurd h (Nat.lt_irrefl _), fun _ h => by cases h⟩

set_option maxRecDepth 100000 in
set_option maxHeartbeats 4000000 in
theorem noPlace_any (p : Pl5) (w : World) (hP : PlH w p) : Calls Tryz.prog 144 #[plV p] w fun e w' => e = .returned (.bool (noPl p)) ∧ Below w.heap.size w w' := by
  obtain ⟨pn1, ph1, pp1⟩ := p
  obtain ⟨R, hR⟩ : ∃ R, R = (noPl ⟨pn1, ph1, pp1⟩) := ⟨_, rfl⟩
  rw [← hR]
  replace hR : R = ((plEq ⟨pn1, ph1, pp1⟩ plZ)) := hR.trans (by rfl)
  have hc0 : ∀ W, Below w.heap.size w W → Calls Tryz.prog 113 #[plV ⟨pn1, ph1, pp1⟩, plV plZ] W fun e w' => e = .returned (.bool (plEq ⟨pn1, ph1, pp1⟩ plZ)) ∧ Below W.heap.size W w' := fun W hW => samePlace_any _ _ W (hP.below hW) (plZ_H W)
  obtain ⟨b0, hb0⟩ : ∃ b, b = (plEq ⟨pn1, ph1, pp1⟩ plZ) := ⟨_, rfl⟩
  rw [← hb0] at hR hc0
  clear hb0
  simp only [plV, plC, plZ, z0, List.length_nil] at hc0
  replace hc0 := Lib.hid hc0
  simp only [plV, plC]
  obtain ⟨W0, hW0⟩ : ∃ W, W = (w.alloc (.cells #[.string pn1, .slice ph1.oa pp1.length ph1.cap] 39)) := ⟨_, rfl⟩
  have HW0 : Below w.heap.size w W0 := by rw [hW0]; exact (Below.refl _ _).alloc (Nat.le_refl _) _
  replace HW0 := Lib.hid HW0
  cases b0 with
  | false =>
    have HR := Lib.hid (show R = false by rw [hR]; first | done | rfl)
    clear hR
    go_enter Tryz.func144, Tryz.ntmps144
    go_wp2_with fail
    rw [← hW0]
    clear hW0
    refine (hc0.out _ HW0.out).mono ?_
    rintro e w1 ⟨rfl, hb1'⟩
    have B1 := Lib.hid (HW0.out.trans (hb1'.mono HW0.out.size))
    have K1 := Lib.hid hb1'
    clear hb1'
    go_wp2_with fail
    go_ret
    exact ⟨by rw [HR.out]; first | done | rfl, B1.out⟩
  | true =>
    have HR := Lib.hid (show R = true by rw [hR]; first | done | rfl)
    clear hR
    go_enter Tryz.func144, Tryz.ntmps144
    go_wp2_with fail
    rw [← hW0]
    clear hW0
    refine (hc0.out _ HW0.out).mono ?_
    rintro e w1 ⟨rfl, hb1'⟩
    have B1 := Lib.hid (HW0.out.trans (hb1'.mono HW0.out.size))
    have K1 := Lib.hid hb1'
    clear hb1'
    go_wp2_with fail
    go_ret
    exact ⟨by rw [HR.out]; first | done | rfl, B1.out⟩

set_option maxRecDepth 100000 in
set_option maxHeartbeats 4000000 in
theorem validOper_num (oi1 : Int) (pn1 : ByteArray) (ph1 : Hd) (pp1 : List ByteArray) (w : World) (hP : PlH w ⟨pn1, ph1, pp1⟩) : Calls Tryz.prog 124 #[opV ⟨true, oi1, ⟨pn1, ph1, pp1⟩⟩] w fun e w' => e = .returned (.bool (opOk ⟨true, oi1, ⟨pn1, ph1, pp1⟩⟩)) ∧ Below w.heap.size w w' := by
  obtain ⟨R, hR⟩ : ∃ R, R = (opOk ⟨true, oi1, ⟨pn1, ph1, pp1⟩⟩) := ⟨_, rfl⟩
  rw [← hR]
  replace hR : R = ((decide (oi1 ≠ -9223372036854775808)) && (noPl ⟨pn1, ph1, pp1⟩)) := hR.trans (by rfl)
  obtain ⟨b0, hb0⟩ : ∃ b, b = (decide (oi1 ≠ -9223372036854775808)) := ⟨_, rfl⟩
  rw [← hb0] at hR
  have hc1 : ∀ W, Below w.heap.size w W → Calls Tryz.prog 144 #[plV ⟨pn1, ph1, pp1⟩] W fun e w' => e = .returned (.bool (noPl ⟨pn1, ph1, pp1⟩)) ∧ Below W.heap.size W w' := fun W hW => noPlace_any _ W (hP.below hW)
  obtain ⟨b1, hb1⟩ : ∃ b, b = (noPl ⟨pn1, ph1, pp1⟩) := ⟨_, rfl⟩
  rw [← hb1] at hR hc1
  clear hb1
  simp only [plV, plC] at hc1
  replace hc1 := Lib.hid hc1
  simp only [opV, opC, plC, List.cons_append, List.nil_append]
  obtain ⟨W0, hW0⟩ : ∃ W, W = (w.alloc (.cells #[.bool true, .int .i64 oi1, .string pn1, .slice ph1.oa pp1.length ph1.cap] 41)) := ⟨_, rfl⟩
  have HW0 : Below w.heap.size w W0 := by rw [hW0]; exact (Below.refl _ _).alloc (Nat.le_refl _) _
  replace HW0 := Lib.hid HW0
  cases b0 with
  | false =>
    have tn : (oi1 != -9223372036854775808) = false := by have : ¬ oi1 ≠ -9223372036854775808 := of_decide_eq_false hb0.symm; simpa using this
    clear hb0
    have HR := Lib.hid (show R = false by rw [hR]; first | done | rfl)
    clear hR
    go_enter Tryz.func124, Tryz.ntmps124
    go_wp2_with fail
    go_ret
    exact ⟨by rw [HR.out]; first | done | rfl, (by rw [← hW0]; exact HW0.out)⟩
  | true =>
    have tn : (oi1 != -9223372036854775808) = true := by have : oi1 ≠ -9223372036854775808 := of_decide_eq_true hb0.symm; simpa using this
    clear hb0
    cases b1 with
    | false =>
      have HR := Lib.hid (show R = false by rw [hR]; first | done | rfl)
      clear hR
      go_enter Tryz.func124, Tryz.ntmps124
      go_wp2_with fail
      rw [← hW0]
      clear hW0
      refine (hc1.out _ HW0.out).mono ?_
      rintro e w1 ⟨rfl, hb1'⟩
      have B1 := Lib.hid (HW0.out.trans (hb1'.mono HW0.out.size))
      have K1 := Lib.hid hb1'
      clear hb1'
      go_wp2_with fail
      go_ret
      exact ⟨by rw [HR.out]; first | done | rfl, B1.out⟩
    | true =>
      have HR := Lib.hid (show R = true by rw [hR]; first | done | rfl)
      clear hR
      go_enter Tryz.func124, Tryz.ntmps124
      go_wp2_with fail
      rw [← hW0]
      clear hW0
      refine (hc1.out _ HW0.out).mono ?_
      rintro e w1 ⟨rfl, hb1'⟩
      have B1 := Lib.hid (HW0.out.trans (hb1'.mono HW0.out.size))
      have K1 := Lib.hid hb1'
      clear hb1'
      go_wp2_with fail
      go_ret
      exact ⟨by rw [HR.out]; first | done | rfl, B1.out⟩

set_option maxRecDepth 100000 in
set_option maxHeartbeats 4000000 in
theorem validOper_pl (oi1 : Int) (pn1 : ByteArray) (ph1 : Hd) (pp1 : List ByteArray) (w : World) (hP : PlH w ⟨pn1, ph1, pp1⟩) (hV : Vz w) : Calls Tryz.prog 124 #[opV ⟨false, oi1, ⟨pn1, ph1, pp1⟩⟩] w fun e w' => e = .returned (.bool (opOk ⟨false, oi1, ⟨pn1, ph1, pp1⟩⟩)) ∧ Below w.heap.size w w' := by
  obtain ⟨R, hR⟩ : ∃ R, R = (opOk ⟨false, oi1, ⟨pn1, ph1, pp1⟩⟩) := ⟨_, rfl⟩
  rw [← hR]
  replace hR : R = ((decide (oi1 = 0)) && (plOk ⟨pn1, ph1, pp1⟩)) := hR.trans (by rfl)
  obtain ⟨b0, hb0⟩ : ∃ b, b = (decide (oi1 = 0)) := ⟨_, rfl⟩
  rw [← hb0] at hR
  have hc1 : ∀ W, Below w.heap.size w W → Calls Tryz.prog 123 #[plV ⟨pn1, ph1, pp1⟩] W fun e w' => e = .returned (.bool (plOk ⟨pn1, ph1, pp1⟩)) ∧ Below W.heap.size W w' := fun W hW => validPlace_any _ W (hP.below hW) (hV.b hW)
  obtain ⟨b1, hb1⟩ : ∃ b, b = (plOk ⟨pn1, ph1, pp1⟩) := ⟨_, rfl⟩
  rw [← hb1] at hR hc1
  clear hb1
  simp only [plV, plC] at hc1
  replace hc1 := Lib.hid hc1
  simp only [opV, opC, plC, List.cons_append, List.nil_append]
  obtain ⟨W0, hW0⟩ : ∃ W, W = (w.alloc (.cells #[.bool false, .int .i64 oi1, .string pn1, .slice ph1.oa pp1.length ph1.cap] 41)) := ⟨_, rfl⟩
  have HW0 : Below w.heap.size w W0 := by rw [hW0]; exact (Below.refl _ _).alloc (Nat.le_refl _) _
  replace HW0 := Lib.hid HW0
  cases b0 with
  | false =>
    have tn : (oi1 == 0) = false := by have : ¬ oi1 = 0 := of_decide_eq_false hb0.symm; simpa using this
    clear hb0
    have HR := Lib.hid (show R = false by rw [hR]; first | done | rfl)
    clear hR
    go_enter Tryz.func124, Tryz.ntmps124
    go_wp2_with fail
    go_ret
    exact ⟨by rw [HR.out]; first | done | rfl, (by rw [← hW0]; exact HW0.out)⟩
  | true =>
    have tn : (oi1 == 0) = true := by have : oi1 = 0 := of_decide_eq_true hb0.symm; simpa using this
    clear hb0
    cases b1 with
    | false =>
      have HR := Lib.hid (show R = false by rw [hR]; first | done | rfl)
      clear hR
      go_enter Tryz.func124, Tryz.ntmps124
      go_wp2_with fail
      rw [← hW0]
      clear hW0
      refine (hc1.out _ HW0.out).mono ?_
      rintro e w1 ⟨rfl, hb1'⟩
      have B1 := Lib.hid (HW0.out.trans (hb1'.mono HW0.out.size))
      have K1 := Lib.hid hb1'
      clear hb1'
      go_wp2_with fail
      go_ret
      exact ⟨by rw [HR.out]; first | done | rfl, B1.out⟩
    | true =>
      have HR := Lib.hid (show R = true by rw [hR]; first | done | rfl)
      clear hR
      go_enter Tryz.func124, Tryz.ntmps124
      go_wp2_with fail
      rw [← hW0]
      clear hW0
      refine (hc1.out _ HW0.out).mono ?_
      rintro e w1 ⟨rfl, hb1'⟩
      have B1 := Lib.hid (HW0.out.trans (hb1'.mono HW0.out.size))
      have K1 := Lib.hid hb1'
      clear hb1'
      go_wp2_with fail
      go_ret
      exact ⟨by rw [HR.out]; first | done | rfl, B1.out⟩

theorem validOper_any (o : Op5) (w : World) (hO : OpH w o) (hV : Vz w) : Calls Tryz.prog 124 #[opV o] w fun e w' => e = .returned (.bool (opOk o)) ∧ Below w.heap.size w w' := by
  obtain ⟨num, n, ⟨pn, ph, pp⟩⟩ := o
  cases num with
  | true => exact validOper_num n pn ph pp w hO.2
  | false => exact validOper_pl n pn ph pp w hO.2 hV

set_option maxRecDepth 100000 in
set_option maxHeartbeats 4000000 in
theorem names10 (rh1 : Hd) (ro1 : List Op5) (pnr1 : ByteArray) (phr1 : Hd) (ppr1 : List ByteArray) (rn1 rr1 : ByteArray) (w : World) (hV : Vz w) : Calls Tryz.prog 138 #[rvV ⟨10, rh1, ro1, ⟨pnr1, phr1, ppr1⟩, rn1, rr1⟩] w fun e w' => e = .returned (.bool (namesOk ⟨10, rh1, ro1, ⟨pnr1, phr1, ppr1⟩, rn1, rr1⟩)) ∧ Below w.heap.size w w' := by
  obtain ⟨R, hR⟩ : ∃ R, R = (namesOk ⟨10, rh1, ro1, ⟨pnr1, phr1, ppr1⟩, rn1, rr1⟩) := ⟨_, rfl⟩
  rw [← hR]
  replace hR : R = ((greatN rn1) && (emptyN rr1)) := hR.trans (by rfl)
  have hc0 : ∀ W, Below w.heap.size w W → Calls Tryz.prog 72 #[.string rn1] W fun e w' => e = .returned (.bool (greatN rn1)) ∧ Below W.heap.size W w' := fun W hW => greatN_b rn1 W (hV.b hW)
  obtain ⟨b0, hb0⟩ : ∃ b, b = (greatN rn1) := ⟨_, rfl⟩
  rw [← hb0] at hR hc0
  clear hb0
  replace hc0 := Lib.hid hc0
  obtain ⟨b1, hb1⟩ : ∃ b, b = (emptyN rr1) := ⟨_, rfl⟩
  rw [← hb1] at hR
  simp only [rvV, rvC, plC, List.cons_append, List.nil_append]
  obtain ⟨W0, hW0⟩ : ∃ W, W = (w.alloc (.cells #[.int .i64 10, .slice rh1.oa ro1.length rh1.cap, .string pnr1, .slice phr1.oa ppr1.length phr1.cap, .string rn1, .string rr1] 49)) := ⟨_, rfl⟩
  have HW0 : Below w.heap.size w W0 := by rw [hW0]; exact (Below.refl _ _).alloc (Nat.le_refl _) _
  replace HW0 := Lib.hid HW0
  have r0 : W0.rangeAt (w.heap.size) 0 [.int .i64 10, .slice rh1.oa ro1.length rh1.cap, .string pnr1, .slice phr1.oa ppr1.length phr1.cap, .string rn1, .string rr1] := by
    have := rangeAt_box w [.int .i64 10, .slice rh1.oa ro1.length rh1.cap, .string pnr1, .slice phr1.oa ppr1.length phr1.cap, .string rn1, .string rr1] 49
    rw [hW0]
    simpa using this
  have hz0 := Lib.hid (show ∀ w', Below W0.heap.size W0 w' → (w'.cell? ⟨w.heap.size, 5, none⟩ = some (.string rr1)) from fun w' hb => rangeAt_below r0 hb 5 _ rfl)
  clear r0
  cases b0 with
  | false =>
    clear hb1
    have HR := Lib.hid (show R = false by rw [hR]; first | done | rfl)
    clear hR
    go_enter Tryz.func138, Tryz.ntmps138
    go_wp2_with fail
    rw [← hW0]
    clear hW0
    refine (hc0.out _ HW0.out).mono ?_
    rintro e w1 ⟨rfl, hb1'⟩
    have B1 := Lib.hid (HW0.out.trans (hb1'.mono HW0.out.size))
    have K1 := Lib.hid hb1'
    clear hb1'
    have z0_0 := hz0.out _ K1.out
    go_wp2_with fail
    go_ret
    exact ⟨by rw [HR.out]; first | done | rfl, B1.out⟩
  | true =>
    cases b1 with
    | false =>
      obtain ⟨em1a, em1b⟩ := empty_no hb1.symm
      clear hb1
      have HR := Lib.hid (show R = false by rw [hR]; first | done | rfl)
      clear hR
      go_enter Tryz.func138, Tryz.ntmps138
      go_wp2_with fail
      rw [← hW0]
      clear hW0
      refine (hc0.out _ HW0.out).mono ?_
      rintro e w1 ⟨rfl, hb1'⟩
      have B1 := Lib.hid (HW0.out.trans (hb1'.mono HW0.out.size))
      have K1 := Lib.hid hb1'
      clear hb1'
      have z0_0 := hz0.out _ K1.out
      go_wp2_with fail
      go_ret
      exact ⟨by rw [HR.out]; first | done | rfl, B1.out⟩
    | true =>
      obtain rfl := empty_of hb1.symm
      clear hb1
      have HR := Lib.hid (show R = true by rw [hR]; first | done | rfl)
      clear hR
      go_enter Tryz.func138, Tryz.ntmps138
      go_wp2_with fail
      rw [← hW0]
      clear hW0
      refine (hc0.out _ HW0.out).mono ?_
      rintro e w1 ⟨rfl, hb1'⟩
      have B1 := Lib.hid (HW0.out.trans (hb1'.mono HW0.out.size))
      have K1 := Lib.hid hb1'
      clear hb1'
      have z0_0 := hz0.out _ K1.out
      go_wp2_with fail
      go_ret
      exact ⟨by rw [HR.out]; first | done | rfl, B1.out⟩

set_option maxRecDepth 100000 in
set_option maxHeartbeats 4000000 in
theorem names11 (rh1 : Hd) (ro1 : List Op5) (pnr1 : ByteArray) (phr1 : Hd) (ppr1 : List ByteArray) (rn1 rr1 : ByteArray) (w : World) (hV : Vz w) : Calls Tryz.prog 138 #[rvV ⟨11, rh1, ro1, ⟨pnr1, phr1, ppr1⟩, rn1, rr1⟩] w fun e w' => e = .returned (.bool (namesOk ⟨11, rh1, ro1, ⟨pnr1, phr1, ppr1⟩, rn1, rr1⟩)) ∧ Below w.heap.size w w' := by
  obtain ⟨R, hR⟩ : ∃ R, R = (namesOk ⟨11, rh1, ro1, ⟨pnr1, phr1, ppr1⟩, rn1, rr1⟩) := ⟨_, rfl⟩
  rw [← hR]
  replace hR : R = ((greatN rn1) && (greatN rr1)) := hR.trans (by rfl)
  have hc0 : ∀ W, Below w.heap.size w W → Calls Tryz.prog 72 #[.string rn1] W fun e w' => e = .returned (.bool (greatN rn1)) ∧ Below W.heap.size W w' := fun W hW => greatN_b rn1 W (hV.b hW)
  obtain ⟨b0, hb0⟩ : ∃ b, b = (greatN rn1) := ⟨_, rfl⟩
  rw [← hb0] at hR hc0
  clear hb0
  replace hc0 := Lib.hid hc0
  have hc1 : ∀ W, Below w.heap.size w W → Calls Tryz.prog 72 #[.string rr1] W fun e w' => e = .returned (.bool (greatN rr1)) ∧ Below W.heap.size W w' := fun W hW => greatN_b rr1 W (hV.b hW)
  obtain ⟨b1, hb1⟩ : ∃ b, b = (greatN rr1) := ⟨_, rfl⟩
  rw [← hb1] at hR hc1
  clear hb1
  replace hc1 := Lib.hid hc1
  simp only [rvV, rvC, plC, List.cons_append, List.nil_append]
  obtain ⟨W0, hW0⟩ : ∃ W, W = (w.alloc (.cells #[.int .i64 11, .slice rh1.oa ro1.length rh1.cap, .string pnr1, .slice phr1.oa ppr1.length phr1.cap, .string rn1, .string rr1] 49)) := ⟨_, rfl⟩
  have HW0 : Below w.heap.size w W0 := by rw [hW0]; exact (Below.refl _ _).alloc (Nat.le_refl _) _
  replace HW0 := Lib.hid HW0
  have r0 : W0.rangeAt (w.heap.size) 0 [.int .i64 11, .slice rh1.oa ro1.length rh1.cap, .string pnr1, .slice phr1.oa ppr1.length phr1.cap, .string rn1, .string rr1] := by
    have := rangeAt_box w [.int .i64 11, .slice rh1.oa ro1.length rh1.cap, .string pnr1, .slice phr1.oa ppr1.length phr1.cap, .string rn1, .string rr1] 49
    rw [hW0]
    simpa using this
  have hz0 := Lib.hid (show ∀ w', Below W0.heap.size W0 w' → (w'.cell? ⟨w.heap.size, 5, none⟩ = some (.string rr1)) from fun w' hb => rangeAt_below r0 hb 5 _ rfl)
  clear r0
  cases b0 with
  | false =>
    have HR := Lib.hid (show R = false by rw [hR]; first | done | rfl)
    clear hR
    go_enter Tryz.func138, Tryz.ntmps138
    go_wp2_with fail
    rw [← hW0]
    clear hW0
    refine (hc0.out _ HW0.out).mono ?_
    rintro e w1 ⟨rfl, hb1'⟩
    have B1 := Lib.hid (HW0.out.trans (hb1'.mono HW0.out.size))
    have K1 := Lib.hid hb1'
    clear hb1'
    have z0_0 := hz0.out _ K1.out
    go_wp2_with fail
    go_ret
    exact ⟨by rw [HR.out]; first | done | rfl, B1.out⟩
  | true =>
    cases b1 with
    | false =>
      have HR := Lib.hid (show R = false by rw [hR]; first | done | rfl)
      clear hR
      go_enter Tryz.func138, Tryz.ntmps138
      go_wp2_with fail
      rw [← hW0]
      clear hW0
      refine (hc0.out _ HW0.out).mono ?_
      rintro e w1 ⟨rfl, hb1'⟩
      have B1 := Lib.hid (HW0.out.trans (hb1'.mono HW0.out.size))
      have K1 := Lib.hid hb1'
      clear hb1'
      have z0_0 := hz0.out _ K1.out
      go_wp2_with fail
      refine (hc1.out _ B1.out).mono ?_
      rintro e w2 ⟨rfl, hb2'⟩
      have B2 := Lib.hid (B1.out.trans (hb2'.mono B1.out.size))
      have K2 := Lib.hid (K1.out.trans (hb2'.mono K1.out.size))
      clear hb2'
      go_wp2_with fail
      go_ret
      exact ⟨by rw [HR.out]; first | done | rfl, B2.out⟩
    | true =>
      have HR := Lib.hid (show R = true by rw [hR]; first | done | rfl)
      clear hR
      go_enter Tryz.func138, Tryz.ntmps138
      go_wp2_with fail
      rw [← hW0]
      clear hW0
      refine (hc0.out _ HW0.out).mono ?_
      rintro e w1 ⟨rfl, hb1'⟩
      have B1 := Lib.hid (HW0.out.trans (hb1'.mono HW0.out.size))
      have K1 := Lib.hid hb1'
      clear hb1'
      have z0_0 := hz0.out _ K1.out
      go_wp2_with fail
      refine (hc1.out _ B1.out).mono ?_
      rintro e w2 ⟨rfl, hb2'⟩
      have B2 := Lib.hid (B1.out.trans (hb2'.mono B1.out.size))
      have K2 := Lib.hid (K1.out.trans (hb2'.mono K1.out.size))
      clear hb2'
      go_wp2_with fail
      go_ret
      exact ⟨by rw [HR.out]; first | done | rfl, B2.out⟩

set_option maxRecDepth 100000 in
set_option maxHeartbeats 4000000 in
theorem names12 (rh1 : Hd) (ro1 : List Op5) (pnr1 : ByteArray) (phr1 : Hd) (ppr1 : List ByteArray) (rn1 rr1 : ByteArray) (w : World) (hV : Vz w) : Calls Tryz.prog 138 #[rvV ⟨12, rh1, ro1, ⟨pnr1, phr1, ppr1⟩, rn1, rr1⟩] w fun e w' => e = .returned (.bool (namesOk ⟨12, rh1, ro1, ⟨pnr1, phr1, ppr1⟩, rn1, rr1⟩)) ∧ Below w.heap.size w w' := by
  obtain ⟨R, hR⟩ : ∃ R, R = (namesOk ⟨12, rh1, ro1, ⟨pnr1, phr1, ppr1⟩, rn1, rr1⟩) := ⟨_, rfl⟩
  rw [← hR]
  replace hR : R = ((smallN rn1) && (emptyN rr1)) := hR.trans (by rfl)
  have hc0 : ∀ W, Below w.heap.size w W → Calls Tryz.prog 77 #[.string rn1] W fun e w' => e = .returned (.bool (smallN rn1)) ∧ Below W.heap.size W w' := fun W hW => smallN_b rn1 W (hV.b hW)
  obtain ⟨b0, hb0⟩ : ∃ b, b = (smallN rn1) := ⟨_, rfl⟩
  rw [← hb0] at hR hc0
  clear hb0
  replace hc0 := Lib.hid hc0
  obtain ⟨b1, hb1⟩ : ∃ b, b = (emptyN rr1) := ⟨_, rfl⟩
  rw [← hb1] at hR
  simp only [rvV, rvC, plC, List.cons_append, List.nil_append]
  obtain ⟨W0, hW0⟩ : ∃ W, W = (w.alloc (.cells #[.int .i64 12, .slice rh1.oa ro1.length rh1.cap, .string pnr1, .slice phr1.oa ppr1.length phr1.cap, .string rn1, .string rr1] 49)) := ⟨_, rfl⟩
  have HW0 : Below w.heap.size w W0 := by rw [hW0]; exact (Below.refl _ _).alloc (Nat.le_refl _) _
  replace HW0 := Lib.hid HW0
  have r0 : W0.rangeAt (w.heap.size) 0 [.int .i64 12, .slice rh1.oa ro1.length rh1.cap, .string pnr1, .slice phr1.oa ppr1.length phr1.cap, .string rn1, .string rr1] := by
    have := rangeAt_box w [.int .i64 12, .slice rh1.oa ro1.length rh1.cap, .string pnr1, .slice phr1.oa ppr1.length phr1.cap, .string rn1, .string rr1] 49
    rw [hW0]
    simpa using this
  have hz0 := Lib.hid (show ∀ w', Below W0.heap.size W0 w' → (w'.cell? ⟨w.heap.size, 5, none⟩ = some (.string rr1)) from fun w' hb => rangeAt_below r0 hb 5 _ rfl)
  clear r0
  cases b0 with
  | false =>
    clear hb1
    have HR := Lib.hid (show R = false by rw [hR]; first | done | rfl)
    clear hR
    go_enter Tryz.func138, Tryz.ntmps138
    go_wp2_with fail
    rw [← hW0]
    clear hW0
    refine (hc0.out _ HW0.out).mono ?_
    rintro e w1 ⟨rfl, hb1'⟩
    have B1 := Lib.hid (HW0.out.trans (hb1'.mono HW0.out.size))
    have K1 := Lib.hid hb1'
    clear hb1'
    have z0_0 := hz0.out _ K1.out
    go_wp2_with fail
    go_ret
    exact ⟨by rw [HR.out]; first | done | rfl, B1.out⟩
  | true =>
    cases b1 with
    | false =>
      obtain ⟨em1a, em1b⟩ := empty_no hb1.symm
      clear hb1
      have HR := Lib.hid (show R = false by rw [hR]; first | done | rfl)
      clear hR
      go_enter Tryz.func138, Tryz.ntmps138
      go_wp2_with fail
      rw [← hW0]
      clear hW0
      refine (hc0.out _ HW0.out).mono ?_
      rintro e w1 ⟨rfl, hb1'⟩
      have B1 := Lib.hid (HW0.out.trans (hb1'.mono HW0.out.size))
      have K1 := Lib.hid hb1'
      clear hb1'
      have z0_0 := hz0.out _ K1.out
      go_wp2_with fail
      go_ret
      exact ⟨by rw [HR.out]; first | done | rfl, B1.out⟩
    | true =>
      obtain rfl := empty_of hb1.symm
      clear hb1
      have HR := Lib.hid (show R = true by rw [hR]; first | done | rfl)
      clear hR
      go_enter Tryz.func138, Tryz.ntmps138
      go_wp2_with fail
      rw [← hW0]
      clear hW0
      refine (hc0.out _ HW0.out).mono ?_
      rintro e w1 ⟨rfl, hb1'⟩
      have B1 := Lib.hid (HW0.out.trans (hb1'.mono HW0.out.size))
      have K1 := Lib.hid hb1'
      clear hb1'
      have z0_0 := hz0.out _ K1.out
      go_wp2_with fail
      go_ret
      exact ⟨by rw [HR.out]; first | done | rfl, B1.out⟩

set_option maxRecDepth 100000 in
set_option maxHeartbeats 4000000 in
theorem namesX (rk1 : Int) (rh1 : Hd) (ro1 : List Op5) (pnr1 : ByteArray) (phr1 : Hd) (ppr1 : List ByteArray) (rn1 rr1 : ByteArray) (w : World) (k10 : ¬ rk1 = 10) (k11 : ¬ rk1 = 11) (k12 : ¬ rk1 = 12) : Calls Tryz.prog 138 #[rvV ⟨rk1, rh1, ro1, ⟨pnr1, phr1, ppr1⟩, rn1, rr1⟩] w fun e w' => e = .returned (.bool (namesOk ⟨rk1, rh1, ro1, ⟨pnr1, phr1, ppr1⟩, rn1, rr1⟩)) ∧ Below w.heap.size w w' := by
  have t10 : (rk1 == 10) = false := by simpa using k10
  have t11 : (rk1 == 11) = false := by simpa using k11
  have t12 : (rk1 == 12) = false := by simpa using k12
  have hRR : namesOk ⟨rk1, rh1, ro1, ⟨pnr1, phr1, ppr1⟩, rn1, rr1⟩ = (emptyN rn1 && emptyN rr1) := by rw [namesOk, if_neg k10, if_neg k11, if_neg k12]
  clear k10 k11 k12
  obtain ⟨R, hR⟩ : ∃ R, R = (namesOk ⟨rk1, rh1, ro1, ⟨pnr1, phr1, ppr1⟩, rn1, rr1⟩) := ⟨_, rfl⟩
  rw [← hR]
  replace hR : R = ((emptyN rn1) && (emptyN rr1)) := hR.trans (by exact hRR)
  obtain ⟨b0, hb0⟩ : ∃ b, b = (emptyN rn1) := ⟨_, rfl⟩
  rw [← hb0] at hR
  obtain ⟨b1, hb1⟩ : ∃ b, b = (emptyN rr1) := ⟨_, rfl⟩
  rw [← hb1] at hR
  clear hRR
  simp only [rvV, rvC, plC, List.cons_append, List.nil_append]
  obtain ⟨W0, hW0⟩ : ∃ W, W = (w.alloc (.cells #[.int .i64 rk1, .slice rh1.oa ro1.length rh1.cap, .string pnr1, .slice phr1.oa ppr1.length phr1.cap, .string rn1, .string rr1] 49)) := ⟨_, rfl⟩
  have HW0 : Below w.heap.size w W0 := by rw [hW0]; exact (Below.refl _ _).alloc (Nat.le_refl _) _
  replace HW0 := Lib.hid HW0
  cases b0 with
  | false =>
    obtain ⟨em0a, em0b⟩ := empty_no hb0.symm
    clear hb0
    clear hb1
    have HR := Lib.hid (show R = false by rw [hR]; first | done | rfl)
    clear hR
    go_enter Tryz.func138, Tryz.ntmps138
    go_wp2_with fail
    go_ret
    exact ⟨by rw [HR.out]; first | done | rfl, (by rw [← hW0]; exact HW0.out)⟩
  | true =>
    obtain rfl := empty_of hb0.symm
    clear hb0
    cases b1 with
    | false =>
      obtain ⟨em1a, em1b⟩ := empty_no hb1.symm
      clear hb1
      have HR := Lib.hid (show R = false by rw [hR]; first | done | rfl)
      clear hR
      go_enter Tryz.func138, Tryz.ntmps138
      go_wp2_with fail
      go_ret
      exact ⟨by rw [HR.out]; first | done | rfl, (by rw [← hW0]; exact HW0.out)⟩
    | true =>
      obtain rfl := empty_of hb1.symm
      clear hb1
      have HR := Lib.hid (show R = true by rw [hR]; first | done | rfl)
      clear hR
      go_enter Tryz.func138, Tryz.ntmps138
      go_wp2_with fail
      go_ret
      exact ⟨by rw [HR.out]; first | done | rfl, (by rw [← hW0]; exact HW0.out)⟩

theorem validNames_any (v : Rv5) (w : World) (hV : Vz w) : Calls Tryz.prog 138 #[rvV v] w fun e w' => e = .returned (.bool (namesOk v)) ∧ Below w.heap.size w w' := by
  obtain ⟨k, h, ops, ⟨pn, ph, pp⟩, nm, vr⟩ := v
  by_cases k10 : k = 10
  · subst k10; exact names10 h ops pn ph pp nm vr w hV
  by_cases k11 : k = 11
  · subst k11; exact names11 h ops pn ph pp nm vr w hV
  by_cases k12 : k = 12
  · subst k12; exact names12 h ops pn ph pp nm vr w hV
  exact namesX k h ops pn ph pp nm vr w k10 k11 k12

set_option maxRecDepth 100000 in
set_option maxHeartbeats 4000000 in
theorem place6 (rh1 : Hd) (ro1 : List Op5) (pnr1 : ByteArray) (phr1 : Hd) (ppr1 : List ByteArray) (rn1 rr1 : ByteArray) (w : World) (hP : PlH w ⟨pnr1, phr1, ppr1⟩) (hV : Vz w) : Calls Tryz.prog 139 #[rvV ⟨6, rh1, ro1, ⟨pnr1, phr1, ppr1⟩, rn1, rr1⟩] w fun e w' => e = .returned (.bool (placeOk ⟨6, rh1, ro1, ⟨pnr1, phr1, ppr1⟩, rn1, rr1⟩)) ∧ Below w.heap.size w w' := by
  obtain ⟨R, hR⟩ : ∃ R, R = (placeOk ⟨6, rh1, ro1, ⟨pnr1, phr1, ppr1⟩, rn1, rr1⟩) := ⟨_, rfl⟩
  rw [← hR]
  replace hR : R = ((plOk ⟨pnr1, phr1, ppr1⟩)) := hR.trans (by rfl)
  have hc0 : ∀ W, Below w.heap.size w W → Calls Tryz.prog 123 #[plV ⟨pnr1, phr1, ppr1⟩] W fun e w' => e = .returned (.bool (plOk ⟨pnr1, phr1, ppr1⟩)) ∧ Below W.heap.size W w' := fun W hW => validPlace_any _ W (hP.below hW) (hV.b hW)
  obtain ⟨b0, hb0⟩ : ∃ b, b = (plOk ⟨pnr1, phr1, ppr1⟩) := ⟨_, rfl⟩
  rw [← hb0] at hR hc0
  clear hb0
  simp only [plV, plC] at hc0
  replace hc0 := Lib.hid hc0
  simp only [rvV, rvC, plC, List.cons_append, List.nil_append]
  obtain ⟨W0, hW0⟩ : ∃ W, W = (w.alloc (.cells #[.int .i64 6, .slice rh1.oa ro1.length rh1.cap, .string pnr1, .slice phr1.oa ppr1.length phr1.cap, .string rn1, .string rr1] 49)) := ⟨_, rfl⟩
  have HW0 : Below w.heap.size w W0 := by rw [hW0]; exact (Below.refl _ _).alloc (Nat.le_refl _) _
  replace HW0 := Lib.hid HW0
  cases b0 with
  | false =>
    have HR := Lib.hid (show R = false by rw [hR]; first | done | rfl)
    clear hR
    go_enter Tryz.func139, Tryz.ntmps139
    go_wp2_with fail
    rw [← hW0]
    clear hW0
    refine (hc0.out _ HW0.out).mono ?_
    rintro e w1 ⟨rfl, hb1'⟩
    have B1 := Lib.hid (HW0.out.trans (hb1'.mono HW0.out.size))
    have K1 := Lib.hid hb1'
    clear hb1'
    go_wp2_with fail
    go_ret
    exact ⟨by rw [HR.out]; first | done | rfl, B1.out⟩
  | true =>
    have HR := Lib.hid (show R = true by rw [hR]; first | done | rfl)
    clear hR
    go_enter Tryz.func139, Tryz.ntmps139
    go_wp2_with fail
    rw [← hW0]
    clear hW0
    refine (hc0.out _ HW0.out).mono ?_
    rintro e w1 ⟨rfl, hb1'⟩
    have B1 := Lib.hid (HW0.out.trans (hb1'.mono HW0.out.size))
    have K1 := Lib.hid hb1'
    clear hb1'
    go_wp2_with fail
    go_ret
    exact ⟨by rw [HR.out]; first | done | rfl, B1.out⟩

set_option maxRecDepth 100000 in
set_option maxHeartbeats 4000000 in
theorem place7 (rh1 : Hd) (ro1 : List Op5) (pnr1 : ByteArray) (phr1 : Hd) (ppr1 : List ByteArray) (rn1 rr1 : ByteArray) (w : World) (hP : PlH w ⟨pnr1, phr1, ppr1⟩) (hV : Vz w) : Calls Tryz.prog 139 #[rvV ⟨7, rh1, ro1, ⟨pnr1, phr1, ppr1⟩, rn1, rr1⟩] w fun e w' => e = .returned (.bool (placeOk ⟨7, rh1, ro1, ⟨pnr1, phr1, ppr1⟩, rn1, rr1⟩)) ∧ Below w.heap.size w w' := by
  obtain ⟨R, hR⟩ : ∃ R, R = (placeOk ⟨7, rh1, ro1, ⟨pnr1, phr1, ppr1⟩, rn1, rr1⟩) := ⟨_, rfl⟩
  rw [← hR]
  replace hR : R = ((plOk ⟨pnr1, phr1, ppr1⟩)) := hR.trans (by rfl)
  have hc0 : ∀ W, Below w.heap.size w W → Calls Tryz.prog 123 #[plV ⟨pnr1, phr1, ppr1⟩] W fun e w' => e = .returned (.bool (plOk ⟨pnr1, phr1, ppr1⟩)) ∧ Below W.heap.size W w' := fun W hW => validPlace_any _ W (hP.below hW) (hV.b hW)
  obtain ⟨b0, hb0⟩ : ∃ b, b = (plOk ⟨pnr1, phr1, ppr1⟩) := ⟨_, rfl⟩
  rw [← hb0] at hR hc0
  clear hb0
  simp only [plV, plC] at hc0
  replace hc0 := Lib.hid hc0
  simp only [rvV, rvC, plC, List.cons_append, List.nil_append]
  obtain ⟨W0, hW0⟩ : ∃ W, W = (w.alloc (.cells #[.int .i64 7, .slice rh1.oa ro1.length rh1.cap, .string pnr1, .slice phr1.oa ppr1.length phr1.cap, .string rn1, .string rr1] 49)) := ⟨_, rfl⟩
  have HW0 : Below w.heap.size w W0 := by rw [hW0]; exact (Below.refl _ _).alloc (Nat.le_refl _) _
  replace HW0 := Lib.hid HW0
  cases b0 with
  | false =>
    have HR := Lib.hid (show R = false by rw [hR]; first | done | rfl)
    clear hR
    go_enter Tryz.func139, Tryz.ntmps139
    go_wp2_with fail
    rw [← hW0]
    clear hW0
    refine (hc0.out _ HW0.out).mono ?_
    rintro e w1 ⟨rfl, hb1'⟩
    have B1 := Lib.hid (HW0.out.trans (hb1'.mono HW0.out.size))
    have K1 := Lib.hid hb1'
    clear hb1'
    go_wp2_with fail
    go_ret
    exact ⟨by rw [HR.out]; first | done | rfl, B1.out⟩
  | true =>
    have HR := Lib.hid (show R = true by rw [hR]; first | done | rfl)
    clear hR
    go_enter Tryz.func139, Tryz.ntmps139
    go_wp2_with fail
    rw [← hW0]
    clear hW0
    refine (hc0.out _ HW0.out).mono ?_
    rintro e w1 ⟨rfl, hb1'⟩
    have B1 := Lib.hid (HW0.out.trans (hb1'.mono HW0.out.size))
    have K1 := Lib.hid hb1'
    clear hb1'
    go_wp2_with fail
    go_ret
    exact ⟨by rw [HR.out]; first | done | rfl, B1.out⟩

set_option maxRecDepth 100000 in
set_option maxHeartbeats 4000000 in
theorem place9 (rh1 : Hd) (ro1 : List Op5) (pnr1 : ByteArray) (phr1 : Hd) (ppr1 : List ByteArray) (rn1 rr1 : ByteArray) (w : World) (hV : Vz w) : Calls Tryz.prog 139 #[rvV ⟨9, rh1, ro1, ⟨pnr1, phr1, ppr1⟩, rn1, rr1⟩] w fun e w' => e = .returned (.bool (placeOk ⟨9, rh1, ro1, ⟨pnr1, phr1, ppr1⟩, rn1, rr1⟩)) ∧ Below w.heap.size w w' := by
  obtain ⟨R, hR⟩ : ∃ R, R = (placeOk ⟨9, rh1, ro1, ⟨pnr1, phr1, ppr1⟩, rn1, rr1⟩) := ⟨_, rfl⟩
  rw [← hR]
  replace hR : R = ((aloneB ⟨pnr1, phr1, ppr1⟩)) := hR.trans (by rfl)
  have hc0 : ∀ W, Below w.heap.size w W → Calls Tryz.prog 125 #[plV ⟨pnr1, phr1, ppr1⟩] W fun e w' => e = .returned (.bool (aloneB ⟨pnr1, phr1, ppr1⟩)) ∧ Below W.heap.size W w' := fun W hW => alone_any _ W (hV.b hW)
  obtain ⟨b0, hb0⟩ : ∃ b, b = (aloneB ⟨pnr1, phr1, ppr1⟩) := ⟨_, rfl⟩
  rw [← hb0] at hR hc0
  clear hb0
  simp only [plV, plC] at hc0
  replace hc0 := Lib.hid hc0
  simp only [rvV, rvC, plC, List.cons_append, List.nil_append]
  obtain ⟨W0, hW0⟩ : ∃ W, W = (w.alloc (.cells #[.int .i64 9, .slice rh1.oa ro1.length rh1.cap, .string pnr1, .slice phr1.oa ppr1.length phr1.cap, .string rn1, .string rr1] 49)) := ⟨_, rfl⟩
  have HW0 : Below w.heap.size w W0 := by rw [hW0]; exact (Below.refl _ _).alloc (Nat.le_refl _) _
  replace HW0 := Lib.hid HW0
  cases b0 with
  | false =>
    have HR := Lib.hid (show R = false by rw [hR]; first | done | rfl)
    clear hR
    go_enter Tryz.func139, Tryz.ntmps139
    go_wp2_with fail
    rw [← hW0]
    clear hW0
    refine (hc0.out _ HW0.out).mono ?_
    rintro e w1 ⟨rfl, hb1'⟩
    have B1 := Lib.hid (HW0.out.trans (hb1'.mono HW0.out.size))
    have K1 := Lib.hid hb1'
    clear hb1'
    go_wp2_with fail
    go_ret
    exact ⟨by rw [HR.out]; first | done | rfl, B1.out⟩
  | true =>
    have HR := Lib.hid (show R = true by rw [hR]; first | done | rfl)
    clear hR
    go_enter Tryz.func139, Tryz.ntmps139
    go_wp2_with fail
    rw [← hW0]
    clear hW0
    refine (hc0.out _ HW0.out).mono ?_
    rintro e w1 ⟨rfl, hb1'⟩
    have B1 := Lib.hid (HW0.out.trans (hb1'.mono HW0.out.size))
    have K1 := Lib.hid hb1'
    clear hb1'
    go_wp2_with fail
    go_ret
    exact ⟨by rw [HR.out]; first | done | rfl, B1.out⟩

set_option maxRecDepth 100000 in
set_option maxHeartbeats 4000000 in
theorem place13 (rh1 : Hd) (ro1 : List Op5) (pnr1 : ByteArray) (phr1 : Hd) (ppr1 : List ByteArray) (rn1 rr1 : ByteArray) (w : World) (hV : Vz w) : Calls Tryz.prog 139 #[rvV ⟨13, rh1, ro1, ⟨pnr1, phr1, ppr1⟩, rn1, rr1⟩] w fun e w' => e = .returned (.bool (placeOk ⟨13, rh1, ro1, ⟨pnr1, phr1, ppr1⟩, rn1, rr1⟩)) ∧ Below w.heap.size w w' := by
  obtain ⟨R, hR⟩ : ∃ R, R = (placeOk ⟨13, rh1, ro1, ⟨pnr1, phr1, ppr1⟩, rn1, rr1⟩) := ⟨_, rfl⟩
  rw [← hR]
  replace hR : R = ((aloneB ⟨pnr1, phr1, ppr1⟩)) := hR.trans (by rfl)
  have hc0 : ∀ W, Below w.heap.size w W → Calls Tryz.prog 125 #[plV ⟨pnr1, phr1, ppr1⟩] W fun e w' => e = .returned (.bool (aloneB ⟨pnr1, phr1, ppr1⟩)) ∧ Below W.heap.size W w' := fun W hW => alone_any _ W (hV.b hW)
  obtain ⟨b0, hb0⟩ : ∃ b, b = (aloneB ⟨pnr1, phr1, ppr1⟩) := ⟨_, rfl⟩
  rw [← hb0] at hR hc0
  clear hb0
  simp only [plV, plC] at hc0
  replace hc0 := Lib.hid hc0
  simp only [rvV, rvC, plC, List.cons_append, List.nil_append]
  obtain ⟨W0, hW0⟩ : ∃ W, W = (w.alloc (.cells #[.int .i64 13, .slice rh1.oa ro1.length rh1.cap, .string pnr1, .slice phr1.oa ppr1.length phr1.cap, .string rn1, .string rr1] 49)) := ⟨_, rfl⟩
  have HW0 : Below w.heap.size w W0 := by rw [hW0]; exact (Below.refl _ _).alloc (Nat.le_refl _) _
  replace HW0 := Lib.hid HW0
  cases b0 with
  | false =>
    have HR := Lib.hid (show R = false by rw [hR]; first | done | rfl)
    clear hR
    go_enter Tryz.func139, Tryz.ntmps139
    go_wp2_with fail
    rw [← hW0]
    clear hW0
    refine (hc0.out _ HW0.out).mono ?_
    rintro e w1 ⟨rfl, hb1'⟩
    have B1 := Lib.hid (HW0.out.trans (hb1'.mono HW0.out.size))
    have K1 := Lib.hid hb1'
    clear hb1'
    go_wp2_with fail
    go_ret
    exact ⟨by rw [HR.out]; first | done | rfl, B1.out⟩
  | true =>
    have HR := Lib.hid (show R = true by rw [hR]; first | done | rfl)
    clear hR
    go_enter Tryz.func139, Tryz.ntmps139
    go_wp2_with fail
    rw [← hW0]
    clear hW0
    refine (hc0.out _ HW0.out).mono ?_
    rintro e w1 ⟨rfl, hb1'⟩
    have B1 := Lib.hid (HW0.out.trans (hb1'.mono HW0.out.size))
    have K1 := Lib.hid hb1'
    clear hb1'
    go_wp2_with fail
    go_ret
    exact ⟨by rw [HR.out]; first | done | rfl, B1.out⟩

set_option maxRecDepth 100000 in
set_option maxHeartbeats 4000000 in
theorem place14 (rh1 : Hd) (ro1 : List Op5) (pnr1 : ByteArray) (phr1 : Hd) (ppr1 : List ByteArray) (rn1 rr1 : ByteArray) (w : World) (hV : Vz w) : Calls Tryz.prog 139 #[rvV ⟨14, rh1, ro1, ⟨pnr1, phr1, ppr1⟩, rn1, rr1⟩] w fun e w' => e = .returned (.bool (placeOk ⟨14, rh1, ro1, ⟨pnr1, phr1, ppr1⟩, rn1, rr1⟩)) ∧ Below w.heap.size w w' := by
  obtain ⟨R, hR⟩ : ∃ R, R = (placeOk ⟨14, rh1, ro1, ⟨pnr1, phr1, ppr1⟩, rn1, rr1⟩) := ⟨_, rfl⟩
  rw [← hR]
  replace hR : R = ((aloneB ⟨pnr1, phr1, ppr1⟩)) := hR.trans (by rfl)
  have hc0 : ∀ W, Below w.heap.size w W → Calls Tryz.prog 125 #[plV ⟨pnr1, phr1, ppr1⟩] W fun e w' => e = .returned (.bool (aloneB ⟨pnr1, phr1, ppr1⟩)) ∧ Below W.heap.size W w' := fun W hW => alone_any _ W (hV.b hW)
  obtain ⟨b0, hb0⟩ : ∃ b, b = (aloneB ⟨pnr1, phr1, ppr1⟩) := ⟨_, rfl⟩
  rw [← hb0] at hR hc0
  clear hb0
  simp only [plV, plC] at hc0
  replace hc0 := Lib.hid hc0
  simp only [rvV, rvC, plC, List.cons_append, List.nil_append]
  obtain ⟨W0, hW0⟩ : ∃ W, W = (w.alloc (.cells #[.int .i64 14, .slice rh1.oa ro1.length rh1.cap, .string pnr1, .slice phr1.oa ppr1.length phr1.cap, .string rn1, .string rr1] 49)) := ⟨_, rfl⟩
  have HW0 : Below w.heap.size w W0 := by rw [hW0]; exact (Below.refl _ _).alloc (Nat.le_refl _) _
  replace HW0 := Lib.hid HW0
  cases b0 with
  | false =>
    have HR := Lib.hid (show R = false by rw [hR]; first | done | rfl)
    clear hR
    go_enter Tryz.func139, Tryz.ntmps139
    go_wp2_with fail
    rw [← hW0]
    clear hW0
    refine (hc0.out _ HW0.out).mono ?_
    rintro e w1 ⟨rfl, hb1'⟩
    have B1 := Lib.hid (HW0.out.trans (hb1'.mono HW0.out.size))
    have K1 := Lib.hid hb1'
    clear hb1'
    go_wp2_with fail
    go_ret
    exact ⟨by rw [HR.out]; first | done | rfl, B1.out⟩
  | true =>
    have HR := Lib.hid (show R = true by rw [hR]; first | done | rfl)
    clear hR
    go_enter Tryz.func139, Tryz.ntmps139
    go_wp2_with fail
    rw [← hW0]
    clear hW0
    refine (hc0.out _ HW0.out).mono ?_
    rintro e w1 ⟨rfl, hb1'⟩
    have B1 := Lib.hid (HW0.out.trans (hb1'.mono HW0.out.size))
    have K1 := Lib.hid hb1'
    clear hb1'
    go_wp2_with fail
    go_ret
    exact ⟨by rw [HR.out]; first | done | rfl, B1.out⟩

set_option maxRecDepth 100000 in
set_option maxHeartbeats 4000000 in
theorem placeX (rk1 : Int) (rh1 : Hd) (ro1 : List Op5) (pnr1 : ByteArray) (phr1 : Hd) (ppr1 : List ByteArray) (rn1 rr1 : ByteArray) (w : World) (hP : PlH w ⟨pnr1, phr1, ppr1⟩) (k6 : ¬ rk1 = 6) (k7 : ¬ rk1 = 7) (k9 : ¬ rk1 = 9) (k13 : ¬ rk1 = 13) (k14 : ¬ rk1 = 14) : Calls Tryz.prog 139 #[rvV ⟨rk1, rh1, ro1, ⟨pnr1, phr1, ppr1⟩, rn1, rr1⟩] w fun e w' => e = .returned (.bool (placeOk ⟨rk1, rh1, ro1, ⟨pnr1, phr1, ppr1⟩, rn1, rr1⟩)) ∧ Below w.heap.size w w' := by
  have t6 : (rk1 == 6) = false := by simpa using k6
  have t7 : (rk1 == 7) = false := by simpa using k7
  have t9 : (rk1 == 9) = false := by simpa using k9
  have t13 : (rk1 == 13) = false := by simpa using k13
  have t14 : (rk1 == 14) = false := by simpa using k14
  have hRR : placeOk ⟨rk1, rh1, ro1, ⟨pnr1, phr1, ppr1⟩, rn1, rr1⟩ = noPl ⟨pnr1, phr1, ppr1⟩ := by rw [placeOk, if_neg (by simp [k6, k7]), if_neg (by simp [k9, k13, k14])]
  clear k6 k7 k9 k13 k14
  obtain ⟨R, hR⟩ : ∃ R, R = (placeOk ⟨rk1, rh1, ro1, ⟨pnr1, phr1, ppr1⟩, rn1, rr1⟩) := ⟨_, rfl⟩
  rw [← hR]
  replace hR : R = ((noPl ⟨pnr1, phr1, ppr1⟩)) := hR.trans (by exact hRR)
  have hc0 : ∀ W, Below w.heap.size w W → Calls Tryz.prog 144 #[plV ⟨pnr1, phr1, ppr1⟩] W fun e w' => e = .returned (.bool (noPl ⟨pnr1, phr1, ppr1⟩)) ∧ Below W.heap.size W w' := fun W hW => noPlace_any _ W (hP.below hW)
  obtain ⟨b0, hb0⟩ : ∃ b, b = (noPl ⟨pnr1, phr1, ppr1⟩) := ⟨_, rfl⟩
  rw [← hb0] at hR hc0
  clear hb0
  simp only [plV, plC] at hc0
  replace hc0 := Lib.hid hc0
  clear hRR
  simp only [rvV, rvC, plC, List.cons_append, List.nil_append]
  obtain ⟨W0, hW0⟩ : ∃ W, W = (w.alloc (.cells #[.int .i64 rk1, .slice rh1.oa ro1.length rh1.cap, .string pnr1, .slice phr1.oa ppr1.length phr1.cap, .string rn1, .string rr1] 49)) := ⟨_, rfl⟩
  have HW0 : Below w.heap.size w W0 := by rw [hW0]; exact (Below.refl _ _).alloc (Nat.le_refl _) _
  replace HW0 := Lib.hid HW0
  cases b0 with
  | false =>
    have HR := Lib.hid (show R = false by rw [hR]; first | done | rfl)
    clear hR
    go_enter Tryz.func139, Tryz.ntmps139
    go_wp2_with fail
    rw [← hW0]
    clear hW0
    refine (hc0.out _ HW0.out).mono ?_
    rintro e w1 ⟨rfl, hb1'⟩
    have B1 := Lib.hid (HW0.out.trans (hb1'.mono HW0.out.size))
    have K1 := Lib.hid hb1'
    clear hb1'
    go_wp2_with fail
    go_ret
    exact ⟨by rw [HR.out]; first | done | rfl, B1.out⟩
  | true =>
    have HR := Lib.hid (show R = true by rw [hR]; first | done | rfl)
    clear hR
    go_enter Tryz.func139, Tryz.ntmps139
    go_wp2_with fail
    rw [← hW0]
    clear hW0
    refine (hc0.out _ HW0.out).mono ?_
    rintro e w1 ⟨rfl, hb1'⟩
    have B1 := Lib.hid (HW0.out.trans (hb1'.mono HW0.out.size))
    have K1 := Lib.hid hb1'
    clear hb1'
    go_wp2_with fail
    go_ret
    exact ⟨by rw [HR.out]; first | done | rfl, B1.out⟩

theorem validPlaceOf_any (v : Rv5) (w : World) (hP : PlH w v.p) (hV : Vz w) : Calls Tryz.prog 139 #[rvV v] w fun e w' => e = .returned (.bool (placeOk v)) ∧ Below w.heap.size w w' := by
  obtain ⟨k, h, ops, ⟨pn, ph, pp⟩, nm, vr⟩ := v
  by_cases k6 : k = 6
  · subst k6; exact place6 h ops pn ph pp nm vr w hP hV
  by_cases k7 : k = 7
  · subst k7; exact place7 h ops pn ph pp nm vr w hP hV
  by_cases k9 : k = 9
  · subst k9; exact place9 h ops pn ph pp nm vr w hV
  by_cases k13 : k = 13
  · subst k13; exact place13 h ops pn ph pp nm vr w hV
  by_cases k14 : k = 14
  · subst k14; exact place14 h ops pn ph pp nm vr w hV
  exact placeX k h ops pn ph pp nm vr w hP k6 k7 k9 k13 k14

set_option maxHeartbeats 2000000 in
theorem validCount_any (k : Int) (n : Nat) (w : World) : Calls Tryz.prog 141 #[.int .i64 k, .int .i64 n] w fun e w' => e = .returned (.bool (countOk k n)) ∧ Below w.heap.size w w' := by
  by_cases k0 : k = 0
  · subst k0
    by_cases hn : n = 1
    · have HR := Lib.hid (show countOk 0 n = true by rw [hn]; rfl)
      have tn : ((n : Int) == 1) = true := by simp [hn]
      clear hn
      go_enter Tryz.func141, Tryz.ntmps141
      go_wp2_with fail
      go_ret
      exact ⟨by rw [HR.out]; first | done | rfl, Below.refl _ _⟩
    · have HR := Lib.hid (show countOk 0 n = false by simp [countOk, hn])
      have tn : ((n : Int) == 1) = false := by rw [beq_eq_false_iff_ne]; omega
      clear hn
      go_enter Tryz.func141, Tryz.ntmps141
      go_wp2_with fail
      go_ret
      exact ⟨by rw [HR.out]; first | done | rfl, Below.refl _ _⟩
  by_cases k1 : k = 1
  · subst k1
    by_cases hn : n = 2
    · have HR := Lib.hid (show countOk 1 n = true by rw [hn]; rfl)
      have tn : ((n : Int) == 2) = true := by simp [hn]
      clear hn
      go_enter Tryz.func141, Tryz.ntmps141
      go_wp2_with fail
      go_ret
      exact ⟨by rw [HR.out]; first | done | rfl, Below.refl _ _⟩
    · have HR := Lib.hid (show countOk 1 n = false by simp [countOk, hn])
      have tn : ((n : Int) == 2) = false := by rw [beq_eq_false_iff_ne]; omega
      clear hn
      go_enter Tryz.func141, Tryz.ntmps141
      go_wp2_with fail
      go_ret
      exact ⟨by rw [HR.out]; first | done | rfl, Below.refl _ _⟩
  by_cases k2 : k = 2
  · subst k2
    by_cases hn : n = 2
    · have HR := Lib.hid (show countOk 2 n = true by rw [hn]; rfl)
      have tn : ((n : Int) == 2) = true := by simp [hn]
      clear hn
      go_enter Tryz.func141, Tryz.ntmps141
      go_wp2_with fail
      go_ret
      exact ⟨by rw [HR.out]; first | done | rfl, Below.refl _ _⟩
    · have HR := Lib.hid (show countOk 2 n = false by simp [countOk, hn])
      have tn : ((n : Int) == 2) = false := by rw [beq_eq_false_iff_ne]; omega
      clear hn
      go_enter Tryz.func141, Tryz.ntmps141
      go_wp2_with fail
      go_ret
      exact ⟨by rw [HR.out]; first | done | rfl, Below.refl _ _⟩
  by_cases k3 : k = 3
  · subst k3
    by_cases hn : n = 2
    · have HR := Lib.hid (show countOk 3 n = true by rw [hn]; rfl)
      have tn : ((n : Int) == 2) = true := by simp [hn]
      clear hn
      go_enter Tryz.func141, Tryz.ntmps141
      go_wp2_with fail
      go_ret
      exact ⟨by rw [HR.out]; first | done | rfl, Below.refl _ _⟩
    · have HR := Lib.hid (show countOk 3 n = false by simp [countOk, hn])
      have tn : ((n : Int) == 2) = false := by rw [beq_eq_false_iff_ne]; omega
      clear hn
      go_enter Tryz.func141, Tryz.ntmps141
      go_wp2_with fail
      go_ret
      exact ⟨by rw [HR.out]; first | done | rfl, Below.refl _ _⟩
  by_cases k4 : k = 4
  · subst k4
    by_cases hn : n = 2
    · have HR := Lib.hid (show countOk 4 n = true by rw [hn]; rfl)
      have tn : ((n : Int) == 2) = true := by simp [hn]
      clear hn
      go_enter Tryz.func141, Tryz.ntmps141
      go_wp2_with fail
      go_ret
      exact ⟨by rw [HR.out]; first | done | rfl, Below.refl _ _⟩
    · have HR := Lib.hid (show countOk 4 n = false by simp [countOk, hn])
      have tn : ((n : Int) == 2) = false := by rw [beq_eq_false_iff_ne]; omega
      clear hn
      go_enter Tryz.func141, Tryz.ntmps141
      go_wp2_with fail
      go_ret
      exact ⟨by rw [HR.out]; first | done | rfl, Below.refl _ _⟩
  by_cases k5 : k = 5
  · subst k5
    by_cases hn : n = 2
    · have HR := Lib.hid (show countOk 5 n = true by rw [hn]; rfl)
      have tn : ((n : Int) == 2) = true := by simp [hn]
      clear hn
      go_enter Tryz.func141, Tryz.ntmps141
      go_wp2_with fail
      go_ret
      exact ⟨by rw [HR.out]; first | done | rfl, Below.refl _ _⟩
    · have HR := Lib.hid (show countOk 5 n = false by simp [countOk, hn])
      have tn : ((n : Int) == 2) = false := by rw [beq_eq_false_iff_ne]; omega
      clear hn
      go_enter Tryz.func141, Tryz.ntmps141
      go_wp2_with fail
      go_ret
      exact ⟨by rw [HR.out]; first | done | rfl, Below.refl _ _⟩
  by_cases k6 : k = 6
  · subst k6
    by_cases hn : n = 0
    · have HR := Lib.hid (show countOk 6 n = true by rw [hn]; rfl)
      have tn : ((n : Int) == 0) = true := by simp [hn]
      clear hn
      go_enter Tryz.func141, Tryz.ntmps141
      go_wp2_with fail
      go_ret
      exact ⟨by rw [HR.out]; first | done | rfl, Below.refl _ _⟩
    · have HR := Lib.hid (show countOk 6 n = false by simp [countOk, hn])
      have tn : ((n : Int) == 0) = false := by rw [beq_eq_false_iff_ne]; omega
      clear hn
      go_enter Tryz.func141, Tryz.ntmps141
      go_wp2_with fail
      go_ret
      exact ⟨by rw [HR.out]; first | done | rfl, Below.refl _ _⟩
  by_cases k7 : k = 7
  · subst k7
    by_cases hn : n = 0
    · have HR := Lib.hid (show countOk 7 n = true by rw [hn]; rfl)
      have tn : ((n : Int) == 0) = true := by simp [hn]
      clear hn
      go_enter Tryz.func141, Tryz.ntmps141
      go_wp2_with fail
      go_ret
      exact ⟨by rw [HR.out]; first | done | rfl, Below.refl _ _⟩
    · have HR := Lib.hid (show countOk 7 n = false by simp [countOk, hn])
      have tn : ((n : Int) == 0) = false := by rw [beq_eq_false_iff_ne]; omega
      clear hn
      go_enter Tryz.func141, Tryz.ntmps141
      go_wp2_with fail
      go_ret
      exact ⟨by rw [HR.out]; first | done | rfl, Below.refl _ _⟩
  by_cases k8 : k = 8
  · subst k8
    by_cases hn : n = 1
    · have HR := Lib.hid (show countOk 8 n = true by rw [hn]; rfl)
      have tn : ((n : Int) == 1) = true := by simp [hn]
      clear hn
      go_enter Tryz.func141, Tryz.ntmps141
      go_wp2_with fail
      go_ret
      exact ⟨by rw [HR.out]; first | done | rfl, Below.refl _ _⟩
    · have HR := Lib.hid (show countOk 8 n = false by simp [countOk, hn])
      have tn : ((n : Int) == 1) = false := by rw [beq_eq_false_iff_ne]; omega
      clear hn
      go_enter Tryz.func141, Tryz.ntmps141
      go_wp2_with fail
      go_ret
      exact ⟨by rw [HR.out]; first | done | rfl, Below.refl _ _⟩
  by_cases k9 : k = 9
  · subst k9
    by_cases hn : n = 0
    · have HR := Lib.hid (show countOk 9 n = true by rw [hn]; rfl)
      have tn : ((n : Int) == 0) = true := by simp [hn]
      clear hn
      go_enter Tryz.func141, Tryz.ntmps141
      go_wp2_with fail
      go_ret
      exact ⟨by rw [HR.out]; first | done | rfl, Below.refl _ _⟩
    · have HR := Lib.hid (show countOk 9 n = false by simp [countOk, hn])
      have tn : ((n : Int) == 0) = false := by rw [beq_eq_false_iff_ne]; omega
      clear hn
      go_enter Tryz.func141, Tryz.ntmps141
      go_wp2_with fail
      go_ret
      exact ⟨by rw [HR.out]; first | done | rfl, Below.refl _ _⟩
  by_cases k10 : k = 10
  · subst k10
    have HR := Lib.hid (show countOk 10 n = true from rfl)
    go_enter Tryz.func141, Tryz.ntmps141
    go_wp2_with fail
    go_ret
    exact ⟨by rw [HR.out]; first | done | rfl, Below.refl _ _⟩
  by_cases k11 : k = 11
  · subst k11
    by_cases hn : n ≤ 1
    · have HR := Lib.hid (show countOk 11 n = true by simp [countOk, hn])
      have tn : (n : Int) ≤ 1 := by omega
      go_enter Tryz.func141, Tryz.ntmps141
      go_wp2_with fail
      go_ret
      exact ⟨by rw [HR.out]; first | done | rfl, Below.refl _ _⟩
    · have HR := Lib.hid (show countOk 11 n = false by simp [countOk, hn])
      have tn : ¬ (n : Int) ≤ 1 := by omega
      have tn2 : decide ((n : Int) ≤ 1) = false := by simpa using tn
      go_enter Tryz.func141, Tryz.ntmps141
      go_wp2_with fail
      go_ret
      exact ⟨by rw [HR.out]; first | done | rfl, Below.refl _ _⟩
  by_cases k12 : k = 12
  · subst k12
    have HR := Lib.hid (show countOk 12 n = true from rfl)
    go_enter Tryz.func141, Tryz.ntmps141
    go_wp2_with fail
    go_ret
    exact ⟨by rw [HR.out]; first | done | rfl, Below.refl _ _⟩
  by_cases k13 : k = 13
  · subst k13
    by_cases hn : n = 0
    · have HR := Lib.hid (show countOk 13 n = true by rw [hn]; rfl)
      have tn : ((n : Int) == 0) = true := by simp [hn]
      clear hn
      go_enter Tryz.func141, Tryz.ntmps141
      go_wp2_with fail
      go_ret
      exact ⟨by rw [HR.out]; first | done | rfl, Below.refl _ _⟩
    · have HR := Lib.hid (show countOk 13 n = false by simp [countOk, hn])
      have tn : ((n : Int) == 0) = false := by rw [beq_eq_false_iff_ne]; omega
      clear hn
      go_enter Tryz.func141, Tryz.ntmps141
      go_wp2_with fail
      go_ret
      exact ⟨by rw [HR.out]; first | done | rfl, Below.refl _ _⟩
  by_cases k14 : k = 14
  · subst k14
    by_cases hn : n = 0
    · have HR := Lib.hid (show countOk 14 n = true by rw [hn]; rfl)
      have tn : ((n : Int) == 0) = true := by simp [hn]
      clear hn
      go_enter Tryz.func141, Tryz.ntmps141
      go_wp2_with fail
      go_ret
      exact ⟨by rw [HR.out]; first | done | rfl, Below.refl _ _⟩
    · have HR := Lib.hid (show countOk 14 n = false by simp [countOk, hn])
      have tn : ((n : Int) == 0) = false := by rw [beq_eq_false_iff_ne]; omega
      clear hn
      go_enter Tryz.func141, Tryz.ntmps141
      go_wp2_with fail
      go_ret
      exact ⟨by rw [HR.out]; first | done | rfl, Below.refl _ _⟩
  by_cases k15 : k = 15
  · subst k15
    by_cases hn : n = 1
    · have HR := Lib.hid (show countOk 15 n = true by rw [hn]; rfl)
      have tn : ((n : Int) == 1) = true := by simp [hn]
      clear hn
      go_enter Tryz.func141, Tryz.ntmps141
      go_wp2_with fail
      go_ret
      exact ⟨by rw [HR.out]; first | done | rfl, Below.refl _ _⟩
    · have HR := Lib.hid (show countOk 15 n = false by simp [countOk, hn])
      have tn : ((n : Int) == 1) = false := by rw [beq_eq_false_iff_ne]; omega
      clear hn
      go_enter Tryz.func141, Tryz.ntmps141
      go_wp2_with fail
      go_ret
      exact ⟨by rw [HR.out]; first | done | rfl, Below.refl _ _⟩
  have HR := Lib.hid (show countOk k n = false by simp [countOk, k0, k1, k2, k3, k4, k5, k6, k7, k8, k9, k10, k11, k12, k13, k14, k15])
  have t0 : (k == 0) = false := by simpa using k0
  have t1 : (k == 1) = false := by simpa using k1
  have t2 : (k == 2) = false := by simpa using k2
  have t3 : (k == 3) = false := by simpa using k3
  have t4 : (k == 4) = false := by simpa using k4
  have t5 : (k == 5) = false := by simpa using k5
  have t6 : (k == 6) = false := by simpa using k6
  have t7 : (k == 7) = false := by simpa using k7
  have t8 : (k == 8) = false := by simpa using k8
  have t9 : (k == 9) = false := by simpa using k9
  have t10 : (k == 10) = false := by simpa using k10
  have t11 : (k == 11) = false := by simpa using k11
  have t12 : (k == 12) = false := by simpa using k12
  have t13 : (k == 13) = false := by simpa using k13
  have t14 : (k == 14) = false := by simpa using k14
  have t15 : (k == 15) = false := by simpa using k15
  clear k0 k1 k2 k3 k4 k5 k6 k7 k8 k9 k10 k11 k12 k13 k14 k15
  go_enter Tryz.func141, Tryz.ntmps141
  go_wp2_with fail
  go_ret
  exact ⟨by rw [HR.out]; first | done | rfl, Below.refl _ _⟩

set_option maxRecDepth 100000 in
set_option maxHeartbeats 4000000 in
theorem validSet_any (v : Rv5) (w : World) (hR : RvH w v) (hV : Vz w) : Calls Tryz.prog 122 #[rvV v] w fun e w' => e = .returned (.bool (rvOk v)) ∧ Below w.heap.size w w' := by
  obtain ⟨rk1, rh1, ro1, ⟨pnr1, phr1, ppr1⟩, rn1, rr1⟩ := v
  obtain ⟨-, hO, hP⟩ := hR
  obtain ⟨R, hR⟩ : ∃ R, R = (rvOk ⟨rk1, rh1, ro1, ⟨pnr1, phr1, ppr1⟩, rn1, rr1⟩) := ⟨_, rfl⟩
  rw [← hR]
  replace hR : R = ((namesOk ⟨rk1, rh1, ro1, ⟨pnr1, phr1, ppr1⟩, rn1, rr1⟩) && (placeOk ⟨rk1, rh1, ro1, ⟨pnr1, phr1, ppr1⟩, rn1, rr1⟩) && (ro1.all opOk) && (countOk rk1 ro1.length)) := hR.trans (by rfl)
  have hc0 : ∀ W, Below w.heap.size w W → Calls Tryz.prog 138 #[rvV ⟨rk1, rh1, ro1, ⟨pnr1, phr1, ppr1⟩, rn1, rr1⟩] W fun e w' => e = .returned (.bool (namesOk ⟨rk1, rh1, ro1, ⟨pnr1, phr1, ppr1⟩, rn1, rr1⟩)) ∧ Below W.heap.size W w' := fun W hW => validNames_any _ W (hV.b hW)
  obtain ⟨b0, hb0⟩ : ∃ b, b = (namesOk ⟨rk1, rh1, ro1, ⟨pnr1, phr1, ppr1⟩, rn1, rr1⟩) := ⟨_, rfl⟩
  rw [← hb0] at hR hc0
  clear hb0
  simp only [rvV, rvC, plC, List.cons_append, List.nil_append] at hc0
  replace hc0 := Lib.hid hc0
  have hc1 : ∀ W, Below w.heap.size w W → Calls Tryz.prog 139 #[rvV ⟨rk1, rh1, ro1, ⟨pnr1, phr1, ppr1⟩, rn1, rr1⟩] W fun e w' => e = .returned (.bool (placeOk ⟨rk1, rh1, ro1, ⟨pnr1, phr1, ppr1⟩, rn1, rr1⟩)) ∧ Below W.heap.size W w' := fun W hW => validPlaceOf_any ⟨rk1, rh1, ro1, ⟨pnr1, phr1, ppr1⟩, rn1, rr1⟩ W (hP.below hW) (hV.b hW)
  obtain ⟨b1, hb1⟩ : ∃ b, b = (placeOk ⟨rk1, rh1, ro1, ⟨pnr1, phr1, ppr1⟩, rn1, rr1⟩) := ⟨_, rfl⟩
  rw [← hb1] at hR hc1
  clear hb1
  simp only [rvV, rvC, plC, List.cons_append, List.nil_append] at hc1
  replace hc1 := Lib.hid hc1
  have hc2 : ∀ W, Below w.heap.size w W → Calls Tryz.prog 140 #[.slice rh1.oa ro1.length rh1.cap, .func (.func 124) #[] #[]] W fun e w' => e = .returned (.bool (ro1.all opOk)) ∧ Below W.heap.size W w' := fun W hW => allOp_any 124 enters124 opOk OpH (fun _ _ _ h hb => OpH.below h hb) W (fun x W2 hx hW2 => validOper_any x W2 hx ((hV.b hW).b hW2)) rh1 ro1 (Row.below hO hW fun _ _ hx => OpH.below hx hW)
  obtain ⟨b2, hb2⟩ : ∃ b, b = (ro1.all opOk) := ⟨_, rfl⟩
  rw [← hb2] at hR hc2
  clear hb2
  replace hc2 := Lib.hid hc2
  have hc3 : ∀ W, Below w.heap.size w W → Calls Tryz.prog 141 #[.int .i64 rk1, .int .i64 ro1.length] W fun e w' => e = .returned (.bool (countOk rk1 ro1.length)) ∧ Below W.heap.size W w' := fun W hW => validCount_any _ _ W
  obtain ⟨b3, hb3⟩ : ∃ b, b = (countOk rk1 ro1.length) := ⟨_, rfl⟩
  rw [← hb3] at hR hc3
  clear hb3
  replace hc3 := Lib.hid hc3
  simp only [rvV, rvC, plC, List.cons_append, List.nil_append]
  obtain ⟨W0, hW0⟩ : ∃ W, W = (w.alloc (.cells #[.int .i64 rk1, .slice rh1.oa ro1.length rh1.cap, .string pnr1, .slice phr1.oa ppr1.length phr1.cap, .string rn1, .string rr1] 49)) := ⟨_, rfl⟩
  have HW0 : Below w.heap.size w W0 := by rw [hW0]; exact (Below.refl _ _).alloc (Nat.le_refl _) _
  replace HW0 := Lib.hid HW0
  have r0 : W0.rangeAt (w.heap.size) 0 [.int .i64 rk1, .slice rh1.oa ro1.length rh1.cap, .string pnr1, .slice phr1.oa ppr1.length phr1.cap, .string rn1, .string rr1] := by
    have := rangeAt_box w [.int .i64 rk1, .slice rh1.oa ro1.length rh1.cap, .string pnr1, .slice phr1.oa ppr1.length phr1.cap, .string rn1, .string rr1] 49
    rw [hW0]
    simpa using this
  have hz0 := Lib.hid (show ∀ w', Below W0.heap.size W0 w' → (w'.cell? ⟨w.heap.size, 0, none⟩ = some (.int .i64 rk1) ∧ w'.cell? ⟨w.heap.size, 1, none⟩ = some (.slice rh1.oa ro1.length rh1.cap) ∧ w'.cell? ⟨w.heap.size, 2, none⟩ = some (.string pnr1) ∧ w'.cell? ⟨w.heap.size, 3, none⟩ = some (.slice phr1.oa ppr1.length phr1.cap) ∧ w'.cell? ⟨w.heap.size, 4, none⟩ = some (.string rn1) ∧ w'.cell? ⟨w.heap.size, 5, none⟩ = some (.string rr1)) from fun w' hb => ⟨rangeAt_below r0 hb 0 _ rfl, rangeAt_below r0 hb 1 _ rfl, rangeAt_below r0 hb 2 _ rfl, rangeAt_below r0 hb 3 _ rfl, rangeAt_below r0 hb 4 _ rfl, rangeAt_below r0 hb 5 _ rfl⟩)
  have hz1 := Lib.hid (show ∀ w', Below W0.heap.size W0 w' → (w'.cell? ⟨w.heap.size, 1, none⟩ = some (.slice rh1.oa ro1.length rh1.cap)) from fun w' hb => rangeAt_below r0 hb 1 _ rfl)
  have hz2 := Lib.hid (show ∀ w', Below W0.heap.size W0 w' → (w'.cell? ⟨w.heap.size, 0, none⟩ = some (.int .i64 rk1) ∧ w'.cell? ⟨w.heap.size, 1, none⟩ = some (.slice rh1.oa ro1.length rh1.cap)) from fun w' hb => ⟨rangeAt_below r0 hb 0 _ rfl, rangeAt_below r0 hb 1 _ rfl⟩)
  clear r0
  cases b0 with
  | false =>
    have HR := Lib.hid (show R = false by rw [hR]; first | done | rfl)
    clear hR
    go_enter Tryz.func122, Tryz.ntmps122
    go_wp2_with fail
    rw [← hW0]
    clear hW0
    refine (hc0.out _ HW0.out).mono ?_
    rintro e w1 ⟨rfl, hb1'⟩
    have B1 := Lib.hid (HW0.out.trans (hb1'.mono HW0.out.size))
    have K1 := Lib.hid hb1'
    clear hb1'
    obtain ⟨z0_0, z0_1, z0_2, z0_3, z0_4, z0_5⟩ := hz0.out _ K1.out
    go_wp2_with fail
    go_ret
    exact ⟨by rw [HR.out]; first | done | rfl, B1.out⟩
  | true =>
    cases b1 with
    | false =>
      have HR := Lib.hid (show R = false by rw [hR]; first | done | rfl)
      clear hR
      go_enter Tryz.func122, Tryz.ntmps122
      go_wp2_with fail
      rw [← hW0]
      clear hW0
      refine (hc0.out _ HW0.out).mono ?_
      rintro e w1 ⟨rfl, hb1'⟩
      have B1 := Lib.hid (HW0.out.trans (hb1'.mono HW0.out.size))
      have K1 := Lib.hid hb1'
      clear hb1'
      obtain ⟨z0_0, z0_1, z0_2, z0_3, z0_4, z0_5⟩ := hz0.out _ K1.out
      go_wp2_with fail
      refine (hc1.out _ B1.out).mono ?_
      rintro e w2 ⟨rfl, hb2'⟩
      have B2 := Lib.hid (B1.out.trans (hb2'.mono B1.out.size))
      have K2 := Lib.hid (K1.out.trans (hb2'.mono K1.out.size))
      clear hb2'
      have z1_0 := hz1.out _ K2.out
      go_wp2_with fail
      go_ret
      exact ⟨by rw [HR.out]; first | done | rfl, B2.out⟩
    | true =>
      cases b2 with
      | false =>
        have HR := Lib.hid (show R = false by rw [hR]; first | done | rfl)
        clear hR
        go_enter Tryz.func122, Tryz.ntmps122
        go_wp2_with fail
        rw [← hW0]
        clear hW0
        refine (hc0.out _ HW0.out).mono ?_
        rintro e w1 ⟨rfl, hb1'⟩
        have B1 := Lib.hid (HW0.out.trans (hb1'.mono HW0.out.size))
        have K1 := Lib.hid hb1'
        clear hb1'
        obtain ⟨z0_0, z0_1, z0_2, z0_3, z0_4, z0_5⟩ := hz0.out _ K1.out
        go_wp2_with fail
        refine (hc1.out _ B1.out).mono ?_
        rintro e w2 ⟨rfl, hb2'⟩
        have B2 := Lib.hid (B1.out.trans (hb2'.mono B1.out.size))
        have K2 := Lib.hid (K1.out.trans (hb2'.mono K1.out.size))
        clear hb2'
        have z1_0 := hz1.out _ K2.out
        go_wp2_with fail
        refine (hc2.out _ B2.out).mono ?_
        rintro e w3 ⟨rfl, hb3'⟩
        have B3 := Lib.hid (B2.out.trans (hb3'.mono B2.out.size))
        have K3 := Lib.hid (K2.out.trans (hb3'.mono K2.out.size))
        clear hb3'
        obtain ⟨z2_0, z2_1⟩ := hz2.out _ K3.out
        go_wp2_with fail
        go_ret
        exact ⟨by rw [HR.out]; first | done | rfl, B3.out⟩
      | true =>
        cases b3 with
        | false =>
          have HR := Lib.hid (show R = false by rw [hR]; first | done | rfl)
          clear hR
          go_enter Tryz.func122, Tryz.ntmps122
          go_wp2_with fail
          rw [← hW0]
          clear hW0
          refine (hc0.out _ HW0.out).mono ?_
          rintro e w1 ⟨rfl, hb1'⟩
          have B1 := Lib.hid (HW0.out.trans (hb1'.mono HW0.out.size))
          have K1 := Lib.hid hb1'
          clear hb1'
          obtain ⟨z0_0, z0_1, z0_2, z0_3, z0_4, z0_5⟩ := hz0.out _ K1.out
          go_wp2_with fail
          refine (hc1.out _ B1.out).mono ?_
          rintro e w2 ⟨rfl, hb2'⟩
          have B2 := Lib.hid (B1.out.trans (hb2'.mono B1.out.size))
          have K2 := Lib.hid (K1.out.trans (hb2'.mono K1.out.size))
          clear hb2'
          have z1_0 := hz1.out _ K2.out
          go_wp2_with fail
          refine (hc2.out _ B2.out).mono ?_
          rintro e w3 ⟨rfl, hb3'⟩
          have B3 := Lib.hid (B2.out.trans (hb3'.mono B2.out.size))
          have K3 := Lib.hid (K2.out.trans (hb3'.mono K2.out.size))
          clear hb3'
          obtain ⟨z2_0, z2_1⟩ := hz2.out _ K3.out
          go_wp2_with fail
          refine (hc3.out _ B3.out).mono ?_
          rintro e w4 ⟨rfl, hb4'⟩
          have B4 := Lib.hid (B3.out.trans (hb4'.mono B3.out.size))
          have K4 := Lib.hid (K3.out.trans (hb4'.mono K3.out.size))
          clear hb4'
          go_wp2_with fail
          go_ret
          exact ⟨by rw [HR.out]; first | done | rfl, B4.out⟩
        | true =>
          have HR := Lib.hid (show R = true by rw [hR]; first | done | rfl)
          clear hR
          go_enter Tryz.func122, Tryz.ntmps122
          go_wp2_with fail
          rw [← hW0]
          clear hW0
          refine (hc0.out _ HW0.out).mono ?_
          rintro e w1 ⟨rfl, hb1'⟩
          have B1 := Lib.hid (HW0.out.trans (hb1'.mono HW0.out.size))
          have K1 := Lib.hid hb1'
          clear hb1'
          obtain ⟨z0_0, z0_1, z0_2, z0_3, z0_4, z0_5⟩ := hz0.out _ K1.out
          go_wp2_with fail
          refine (hc1.out _ B1.out).mono ?_
          rintro e w2 ⟨rfl, hb2'⟩
          have B2 := Lib.hid (B1.out.trans (hb2'.mono B1.out.size))
          have K2 := Lib.hid (K1.out.trans (hb2'.mono K1.out.size))
          clear hb2'
          have z1_0 := hz1.out _ K2.out
          go_wp2_with fail
          refine (hc2.out _ B2.out).mono ?_
          rintro e w3 ⟨rfl, hb3'⟩
          have B3 := Lib.hid (B2.out.trans (hb3'.mono B2.out.size))
          have K3 := Lib.hid (K2.out.trans (hb3'.mono K2.out.size))
          clear hb3'
          obtain ⟨z2_0, z2_1⟩ := hz2.out _ K3.out
          go_wp2_with fail
          refine (hc3.out _ B3.out).mono ?_
          rintro e w4 ⟨rfl, hb4'⟩
          have B4 := Lib.hid (B3.out.trans (hb4'.mono B3.out.size))
          have K4 := Lib.hid (K3.out.trans (hb4'.mono K3.out.size))
          clear hb4'
          go_wp2_with fail
          go_ret
          exact ⟨by rw [HR.out]; first | done | rfl, B4.out⟩

set_option maxRecDepth 100000 in
set_option maxHeartbeats 4000000 in
theorem validField_any (n : Nat) (f : Fd5) (w : World) (hF : FdH n w f) (hV : Vz w) : Calls Tryz.prog 74 #[fdV f] w fun e w' => e = .returned (.bool (fdOk f)) ∧ Below w.heap.size w w' := by
  obtain ⟨fn1, ⟨k1, nm1, h1, l1⟩⟩ := f
  obtain ⟨R, hR⟩ : ∃ R, R = (fdOk ⟨fn1, (.mk k1 nm1 h1 l1)⟩) := ⟨_, rfl⟩
  rw [← hR]
  replace hR : R = ((smallN fn1) && (tyOk 60 (.mk k1 nm1 h1 l1))) := hR.trans (by rfl)
  have hc0 : ∀ W, Below w.heap.size w W → Calls Tryz.prog 77 #[.string fn1] W fun e w' => e = .returned (.bool (smallN fn1)) ∧ Below W.heap.size W w' := fun W hW => smallN_b fn1 W (hV.b hW)
  obtain ⟨b0, hb0⟩ : ∃ b, b = (smallN fn1) := ⟨_, rfl⟩
  rw [← hb0] at hR hc0
  clear hb0
  replace hc0 := Lib.hid hc0
  have hc1 : ∀ W, Below w.heap.size w W → Calls Tryz.prog 101 #[tyV (.mk k1 nm1 h1 l1)] W fun e w' => e = .returned (.bool (tyOk 60 (.mk k1 nm1 h1 l1))) ∧ Below W.heap.size W w' := fun W hW => validType_any n _ W (TyH.below n hF hW) (hV.b hW)
  obtain ⟨b1, hb1⟩ : ∃ b, b = (tyOk 60 (.mk k1 nm1 h1 l1)) := ⟨_, rfl⟩
  rw [← hb1] at hR hc1
  clear hb1
  simp only [tyV, tyC] at hc1
  replace hc1 := Lib.hid hc1
  simp only [fdV, fdC, tyC]
  obtain ⟨W0, hW0⟩ : ∃ W, W = (w.alloc (.cells #[.string fn1, .int .i64 k1, .string nm1, .slice h1.oa l1.length h1.cap] 102)) := ⟨_, rfl⟩
  have HW0 : Below w.heap.size w W0 := by rw [hW0]; exact (Below.refl _ _).alloc (Nat.le_refl _) _
  replace HW0 := Lib.hid HW0
  have r0 : W0.rangeAt (w.heap.size) 0 [.string fn1, .int .i64 k1, .string nm1, .slice h1.oa l1.length h1.cap] := by
    have := rangeAt_box w [.string fn1, .int .i64 k1, .string nm1, .slice h1.oa l1.length h1.cap] 102
    rw [hW0]
    simpa using this
  have hz0 := Lib.hid (show ∀ w', Below W0.heap.size W0 w' → (w'.cell? ⟨w.heap.size, 1, none⟩ = some (.int .i64 k1) ∧ w'.cell? ⟨w.heap.size, 2, none⟩ = some (.string nm1) ∧ w'.cell? ⟨w.heap.size, 3, none⟩ = some (.slice h1.oa l1.length h1.cap)) from fun w' hb => ⟨rangeAt_below r0 hb 1 _ rfl, rangeAt_below r0 hb 2 _ rfl, rangeAt_below r0 hb 3 _ rfl⟩)
  clear r0
  cases b0 with
  | false =>
    have HR := Lib.hid (show R = false by rw [hR]; first | done | rfl)
    clear hR
    go_enter Tryz.func74, Tryz.ntmps74
    go_wp2_with fail
    rw [← hW0]
    clear hW0
    refine (hc0.out _ HW0.out).mono ?_
    rintro e w1 ⟨rfl, hb1'⟩
    have B1 := Lib.hid (HW0.out.trans (hb1'.mono HW0.out.size))
    have K1 := Lib.hid hb1'
    clear hb1'
    obtain ⟨z0_0, z0_1, z0_2⟩ := hz0.out _ K1.out
    go_wp2_with fail
    go_ret
    exact ⟨by rw [HR.out]; first | done | rfl, B1.out⟩
  | true =>
    cases b1 with
    | false =>
      have HR := Lib.hid (show R = false by rw [hR]; first | done | rfl)
      clear hR
      go_enter Tryz.func74, Tryz.ntmps74
      go_wp2_with fail
      rw [← hW0]
      clear hW0
      refine (hc0.out _ HW0.out).mono ?_
      rintro e w1 ⟨rfl, hb1'⟩
      have B1 := Lib.hid (HW0.out.trans (hb1'.mono HW0.out.size))
      have K1 := Lib.hid hb1'
      clear hb1'
      obtain ⟨z0_0, z0_1, z0_2⟩ := hz0.out _ K1.out
      go_wp2_with fail
      refine (hc1.out _ B1.out).mono ?_
      rintro e w2 ⟨rfl, hb2'⟩
      have B2 := Lib.hid (B1.out.trans (hb2'.mono B1.out.size))
      have K2 := Lib.hid (K1.out.trans (hb2'.mono K1.out.size))
      clear hb2'
      go_wp2_with fail
      go_ret
      exact ⟨by rw [HR.out]; first | done | rfl, B2.out⟩
    | true =>
      have HR := Lib.hid (show R = true by rw [hR]; first | done | rfl)
      clear hR
      go_enter Tryz.func74, Tryz.ntmps74
      go_wp2_with fail
      rw [← hW0]
      clear hW0
      refine (hc0.out _ HW0.out).mono ?_
      rintro e w1 ⟨rfl, hb1'⟩
      have B1 := Lib.hid (HW0.out.trans (hb1'.mono HW0.out.size))
      have K1 := Lib.hid hb1'
      clear hb1'
      obtain ⟨z0_0, z0_1, z0_2⟩ := hz0.out _ K1.out
      go_wp2_with fail
      refine (hc1.out _ B1.out).mono ?_
      rintro e w2 ⟨rfl, hb2'⟩
      have B2 := Lib.hid (B1.out.trans (hb2'.mono B1.out.size))
      have K2 := Lib.hid (K1.out.trans (hb2'.mono K1.out.size))
      clear hb2'
      go_wp2_with fail
      go_ret
      exact ⟨by rw [HR.out]; first | done | rfl, B2.out⟩

set_option maxRecDepth 100000 in
set_option maxHeartbeats 4000000 in
theorem validStruct_any (n : Nat) (s : Su5) (w : World) (hS : SuH n w s) (hV : Vz w) : Calls Tryz.prog 41 #[suV s] w fun e w' => e = .returned (.bool (suOk s)) ∧ Below w.heap.size w w' := by
  obtain ⟨un1, ud1, uh1, uf1, up1⟩ := s
  obtain ⟨R, hR⟩ : ∃ R, R = (suOk ⟨un1, ud1, uh1, uf1, up1⟩) := ⟨_, rfl⟩
  rw [← hR]
  replace hR : R = ((greatN un1) && (uf1.all fdOk)) := hR.trans (by rfl)
  have hc0 : ∀ W, Below w.heap.size w W → Calls Tryz.prog 72 #[.string un1] W fun e w' => e = .returned (.bool (greatN un1)) ∧ Below W.heap.size W w' := fun W hW => greatN_b un1 W (hV.b hW)
  obtain ⟨b0, hb0⟩ : ∃ b, b = (greatN un1) := ⟨_, rfl⟩
  rw [← hb0] at hR hc0
  clear hb0
  replace hc0 := Lib.hid hc0
  have hc1 : ∀ W, Below w.heap.size w W → Calls Tryz.prog 73 #[.slice uh1.oa uf1.length uh1.cap, .func (.func 74) #[] #[]] W fun e w' => e = .returned (.bool (uf1.all fdOk)) ∧ Below W.heap.size W w' := fun W hW => allFd_any 74 enters74 fdOk (FdH n) (fun _ _ _ h hb => FdH.below h hb) W (fun x W2 hx hW2 => validField_any n x W2 hx ((hV.b hW).b hW2)) uh1 uf1 (Row.below hS hW fun _ _ hx => FdH.below hx hW)
  obtain ⟨b1, hb1⟩ : ∃ b, b = (uf1.all fdOk) := ⟨_, rfl⟩
  rw [← hb1] at hR hc1
  clear hb1
  replace hc1 := Lib.hid hc1
  simp only [suV, suC]
  obtain ⟨W0, hW0⟩ : ∃ W, W = (w.alloc (.cells #[.string un1, .bool ud1, .slice uh1.oa uf1.length uh1.cap, .int .i64 up1] 65)) := ⟨_, rfl⟩
  have HW0 : Below w.heap.size w W0 := by rw [hW0]; exact (Below.refl _ _).alloc (Nat.le_refl _) _
  replace HW0 := Lib.hid HW0
  have r0 : W0.rangeAt (w.heap.size) 0 [.string un1, .bool ud1, .slice uh1.oa uf1.length uh1.cap, .int .i64 up1] := by
    have := rangeAt_box w [.string un1, .bool ud1, .slice uh1.oa uf1.length uh1.cap, .int .i64 up1] 65
    rw [hW0]
    simpa using this
  have hz0 := Lib.hid (show ∀ w', Below W0.heap.size W0 w' → (w'.cell? ⟨w.heap.size, 2, none⟩ = some (.slice uh1.oa uf1.length uh1.cap)) from fun w' hb => rangeAt_below r0 hb 2 _ rfl)
  clear r0
  cases b0 with
  | false =>
    have HR := Lib.hid (show R = false by rw [hR]; first | done | rfl)
    clear hR
    go_enter Tryz.func41, Tryz.ntmps41
    go_wp2_with fail
    rw [← hW0]
    clear hW0
    refine (hc0.out _ HW0.out).mono ?_
    rintro e w1 ⟨rfl, hb1'⟩
    have B1 := Lib.hid (HW0.out.trans (hb1'.mono HW0.out.size))
    have K1 := Lib.hid hb1'
    clear hb1'
    have z0_0 := hz0.out _ K1.out
    go_wp2_with fail
    go_ret
    exact ⟨by rw [HR.out]; first | done | rfl, B1.out⟩
  | true =>
    cases b1 with
    | false =>
      have HR := Lib.hid (show R = false by rw [hR]; first | done | rfl)
      clear hR
      go_enter Tryz.func41, Tryz.ntmps41
      go_wp2_with fail
      rw [← hW0]
      clear hW0
      refine (hc0.out _ HW0.out).mono ?_
      rintro e w1 ⟨rfl, hb1'⟩
      have B1 := Lib.hid (HW0.out.trans (hb1'.mono HW0.out.size))
      have K1 := Lib.hid hb1'
      clear hb1'
      have z0_0 := hz0.out _ K1.out
      go_wp2_with fail
      refine (hc1.out _ B1.out).mono ?_
      rintro e w2 ⟨rfl, hb2'⟩
      have B2 := Lib.hid (B1.out.trans (hb2'.mono B1.out.size))
      have K2 := Lib.hid (K1.out.trans (hb2'.mono K1.out.size))
      clear hb2'
      go_wp2_with fail
      go_ret
      exact ⟨by rw [HR.out]; first | done | rfl, B2.out⟩
    | true =>
      have HR := Lib.hid (show R = true by rw [hR]; first | done | rfl)
      clear hR
      go_enter Tryz.func41, Tryz.ntmps41
      go_wp2_with fail
      rw [← hW0]
      clear hW0
      refine (hc0.out _ HW0.out).mono ?_
      rintro e w1 ⟨rfl, hb1'⟩
      have B1 := Lib.hid (HW0.out.trans (hb1'.mono HW0.out.size))
      have K1 := Lib.hid hb1'
      clear hb1'
      have z0_0 := hz0.out _ K1.out
      go_wp2_with fail
      refine (hc1.out _ B1.out).mono ?_
      rintro e w2 ⟨rfl, hb2'⟩
      have B2 := Lib.hid (B1.out.trans (hb2'.mono B1.out.size))
      have K2 := Lib.hid (K1.out.trans (hb2'.mono K1.out.size))
      clear hb2'
      go_wp2_with fail
      go_ret
      exact ⟨by rw [HR.out]; first | done | rfl, B2.out⟩

theorem tyZ_H (n : Nat) (w : World) : TyH (n + 1) w tyZ := ⟨⟨by decide, by decide⟩, Nat.le_refl _, Nat.zero_le _, fun h => absurd h (Nat.lt_irrefl _), fun _ h => by cases h⟩

set_option maxRecDepth 100000 in
set_option maxHeartbeats 4000000 in
theorem vaYes (n : Nat) (fn1 : ByteArray) (k1 : Int) (nm1 : ByteArray) (h1 : Hd) (l1 : List Ty5) (w : World) (hF : TyH n w (.mk k1 nm1 h1 l1)) (hV : Vz w) (hz : tyEq (.mk k1 nm1 h1 l1) tyZ = true) : Calls Tryz.prog 76 #[fdV ⟨fn1, (.mk k1 nm1 h1 l1)⟩] w fun e w' => e = .returned (.bool (vaOk ⟨fn1, (.mk k1 nm1 h1 l1)⟩)) ∧ Below w.heap.size w w' := by
  have hRR : vaOk ⟨fn1, (.mk k1 nm1 h1 l1)⟩ = greatN fn1 := by rw [vaOk, hz, Bool.true_or, Bool.and_true]
  obtain ⟨R, hR⟩ : ∃ R, R = (vaOk ⟨fn1, (.mk k1 nm1 h1 l1)⟩) := ⟨_, rfl⟩
  rw [← hR]
  replace hR : R = ((greatN fn1)) := hR.trans (by exact hRR)
  have hc0 : ∀ W, Below w.heap.size w W → Calls Tryz.prog 72 #[.string fn1] W fun e w' => e = .returned (.bool (greatN fn1)) ∧ Below W.heap.size W w' := fun W hW => greatN_b fn1 W (hV.b hW)
  obtain ⟨b0, hb0⟩ : ∃ b, b = (greatN fn1) := ⟨_, rfl⟩
  rw [← hb0] at hR hc0
  clear hb0
  replace hc0 := Lib.hid hc0
  have hc1 : ∀ W, Below w.heap.size w W → Calls Tryz.prog 96 #[tyV (.mk k1 nm1 h1 l1), tyV tyZ] W fun e w' => e = .returned (.bool (true)) ∧ Below W.heap.size W w' := fun W hW => (by cases n with | zero => exact hF.elim | succ m => exact (by rw [← hz]; exact sameType_any (m + 1) _ _ W (TyH.below _ hF hW) (tyZ_H m W)))
  simp only [tyV, tyC, tyZ, z0, List.length_nil] at hc1
  replace hc1 := Lib.hid hc1
  simp only [fdV, fdC, tyC]
  obtain ⟨W0, hW0⟩ : ∃ W, W = (w.alloc (.cells #[.string fn1, .int .i64 k1, .string nm1, .slice h1.oa l1.length h1.cap] 71)) := ⟨_, rfl⟩
  have HW0 : Below w.heap.size w W0 := by rw [hW0]; exact (Below.refl _ _).alloc (Nat.le_refl _) _
  replace HW0 := Lib.hid HW0
  have r0 : W0.rangeAt (w.heap.size) 0 [.string fn1, .int .i64 k1, .string nm1, .slice h1.oa l1.length h1.cap] := by
    have := rangeAt_box w [.string fn1, .int .i64 k1, .string nm1, .slice h1.oa l1.length h1.cap] 71
    rw [hW0]
    simpa using this
  have hz0 := Lib.hid (show ∀ w', Below W0.heap.size W0 w' → (w'.cell? ⟨w.heap.size, 1, none⟩ = some (.int .i64 k1) ∧ w'.cell? ⟨w.heap.size, 2, none⟩ = some (.string nm1) ∧ w'.cell? ⟨w.heap.size, 3, none⟩ = some (.slice h1.oa l1.length h1.cap)) from fun w' hb => ⟨rangeAt_below r0 hb 1 _ rfl, rangeAt_below r0 hb 2 _ rfl, rangeAt_below r0 hb 3 _ rfl⟩)
  clear r0
  cases b0 with
  | false =>
    have HR := Lib.hid (show R = false by rw [hR]; first | done | rfl)
    clear hR
    go_enter Tryz.func76, Tryz.ntmps76
    go_wp2_with fail
    rw [← hW0]
    clear hW0
    refine (hc0.out _ HW0.out).mono ?_
    rintro e w1 ⟨rfl, hb1'⟩
    have B1 := Lib.hid (HW0.out.trans (hb1'.mono HW0.out.size))
    have K1 := Lib.hid hb1'
    clear hb1'
    obtain ⟨z0_0, z0_1, z0_2⟩ := hz0.out _ K1.out
    go_wp2_with fail
    go_ret
    exact ⟨by rw [HR.out]; first | done | rfl, B1.out⟩
  | true =>
    have HR := Lib.hid (show R = true by rw [hR]; first | done | rfl)
    clear hR
    go_enter Tryz.func76, Tryz.ntmps76
    go_wp2_with fail
    rw [← hW0]
    clear hW0
    refine (hc0.out _ HW0.out).mono ?_
    rintro e w1 ⟨rfl, hb1'⟩
    have B1 := Lib.hid (HW0.out.trans (hb1'.mono HW0.out.size))
    have K1 := Lib.hid hb1'
    clear hb1'
    obtain ⟨z0_0, z0_1, z0_2⟩ := hz0.out _ K1.out
    go_wp2_with fail
    refine (hc1.out _ B1.out).mono ?_
    rintro e w2 ⟨rfl, hb2'⟩
    have B2 := Lib.hid (B1.out.trans (hb2'.mono B1.out.size))
    have K2 := Lib.hid (K1.out.trans (hb2'.mono K1.out.size))
    clear hb2'
    go_wp2_with fail
    go_ret
    exact ⟨by rw [HR.out]; first | done | rfl, B2.out⟩

set_option maxRecDepth 100000 in
set_option maxHeartbeats 4000000 in
theorem vaNo (n : Nat) (fn1 : ByteArray) (k1 : Int) (nm1 : ByteArray) (h1 : Hd) (l1 : List Ty5) (w : World) (hF : TyH n w (.mk k1 nm1 h1 l1)) (hV : Vz w) (hz : tyEq (.mk k1 nm1 h1 l1) tyZ = false) : Calls Tryz.prog 76 #[fdV ⟨fn1, (.mk k1 nm1 h1 l1)⟩] w fun e w' => e = .returned (.bool (vaOk ⟨fn1, (.mk k1 nm1 h1 l1)⟩)) ∧ Below w.heap.size w w' := by
  have hRR : vaOk ⟨fn1, (.mk k1 nm1 h1 l1)⟩ = (greatN fn1 && tyOk 60 (.mk k1 nm1 h1 l1)) := by rw [vaOk, hz, Bool.false_or]
  obtain ⟨R, hR⟩ : ∃ R, R = (vaOk ⟨fn1, (.mk k1 nm1 h1 l1)⟩) := ⟨_, rfl⟩
  rw [← hR]
  replace hR : R = ((greatN fn1) && (tyOk 60 (.mk k1 nm1 h1 l1))) := hR.trans (by exact hRR)
  have hc0 : ∀ W, Below w.heap.size w W → Calls Tryz.prog 72 #[.string fn1] W fun e w' => e = .returned (.bool (greatN fn1)) ∧ Below W.heap.size W w' := fun W hW => greatN_b fn1 W (hV.b hW)
  obtain ⟨b0, hb0⟩ : ∃ b, b = (greatN fn1) := ⟨_, rfl⟩
  rw [← hb0] at hR hc0
  clear hb0
  replace hc0 := Lib.hid hc0
  have hc1 : ∀ W, Below w.heap.size w W → Calls Tryz.prog 96 #[tyV (.mk k1 nm1 h1 l1), tyV tyZ] W fun e w' => e = .returned (.bool (false)) ∧ Below W.heap.size W w' := fun W hW => (by cases n with | zero => exact hF.elim | succ m => exact (by rw [← hz]; exact sameType_any (m + 1) _ _ W (TyH.below _ hF hW) (tyZ_H m W)))
  simp only [tyV, tyC, tyZ, z0, List.length_nil] at hc1
  replace hc1 := Lib.hid hc1
  have hc2 : ∀ W, Below w.heap.size w W → Calls Tryz.prog 101 #[tyV (.mk k1 nm1 h1 l1)] W fun e w' => e = .returned (.bool (tyOk 60 (.mk k1 nm1 h1 l1))) ∧ Below W.heap.size W w' := fun W hW => validType_any n _ W (TyH.below n hF hW) (hV.b hW)
  obtain ⟨b2, hb2⟩ : ∃ b, b = (tyOk 60 (.mk k1 nm1 h1 l1)) := ⟨_, rfl⟩
  rw [← hb2] at hR hc2
  clear hb2
  simp only [tyV, tyC] at hc2
  replace hc2 := Lib.hid hc2
  simp only [fdV, fdC, tyC]
  obtain ⟨W0, hW0⟩ : ∃ W, W = (w.alloc (.cells #[.string fn1, .int .i64 k1, .string nm1, .slice h1.oa l1.length h1.cap] 71)) := ⟨_, rfl⟩
  have HW0 : Below w.heap.size w W0 := by rw [hW0]; exact (Below.refl _ _).alloc (Nat.le_refl _) _
  replace HW0 := Lib.hid HW0
  have r0 : W0.rangeAt (w.heap.size) 0 [.string fn1, .int .i64 k1, .string nm1, .slice h1.oa l1.length h1.cap] := by
    have := rangeAt_box w [.string fn1, .int .i64 k1, .string nm1, .slice h1.oa l1.length h1.cap] 71
    rw [hW0]
    simpa using this
  have hz0 := Lib.hid (show ∀ w', Below W0.heap.size W0 w' → (w'.cell? ⟨w.heap.size, 1, none⟩ = some (.int .i64 k1) ∧ w'.cell? ⟨w.heap.size, 2, none⟩ = some (.string nm1) ∧ w'.cell? ⟨w.heap.size, 3, none⟩ = some (.slice h1.oa l1.length h1.cap)) from fun w' hb => ⟨rangeAt_below r0 hb 1 _ rfl, rangeAt_below r0 hb 2 _ rfl, rangeAt_below r0 hb 3 _ rfl⟩)
  have hz1 := Lib.hid (show ∀ w', Below W0.heap.size W0 w' → (w'.cell? ⟨w.heap.size, 1, none⟩ = some (.int .i64 k1) ∧ w'.cell? ⟨w.heap.size, 2, none⟩ = some (.string nm1) ∧ w'.cell? ⟨w.heap.size, 3, none⟩ = some (.slice h1.oa l1.length h1.cap)) from fun w' hb => ⟨rangeAt_below r0 hb 1 _ rfl, rangeAt_below r0 hb 2 _ rfl, rangeAt_below r0 hb 3 _ rfl⟩)
  clear r0
  cases b0 with
  | false =>
    have HR := Lib.hid (show R = false by rw [hR]; first | done | rfl)
    clear hR
    go_enter Tryz.func76, Tryz.ntmps76
    go_wp2_with fail
    rw [← hW0]
    clear hW0
    refine (hc0.out _ HW0.out).mono ?_
    rintro e w1 ⟨rfl, hb1'⟩
    have B1 := Lib.hid (HW0.out.trans (hb1'.mono HW0.out.size))
    have K1 := Lib.hid hb1'
    clear hb1'
    obtain ⟨z0_0, z0_1, z0_2⟩ := hz0.out _ K1.out
    go_wp2_with fail
    go_ret
    exact ⟨by rw [HR.out]; first | done | rfl, B1.out⟩
  | true =>
    cases b2 with
    | false =>
      have HR := Lib.hid (show R = false by rw [hR]; first | done | rfl)
      clear hR
      go_enter Tryz.func76, Tryz.ntmps76
      go_wp2_with fail
      rw [← hW0]
      clear hW0
      refine (hc0.out _ HW0.out).mono ?_
      rintro e w1 ⟨rfl, hb1'⟩
      have B1 := Lib.hid (HW0.out.trans (hb1'.mono HW0.out.size))
      have K1 := Lib.hid hb1'
      clear hb1'
      obtain ⟨z0_0, z0_1, z0_2⟩ := hz0.out _ K1.out
      go_wp2_with fail
      refine (hc1.out _ B1.out).mono ?_
      rintro e w2 ⟨rfl, hb2'⟩
      have B2 := Lib.hid (B1.out.trans (hb2'.mono B1.out.size))
      have K2 := Lib.hid (K1.out.trans (hb2'.mono K1.out.size))
      clear hb2'
      obtain ⟨z1_0, z1_1, z1_2⟩ := hz1.out _ K2.out
      go_wp2_with fail
      refine (hc2.out _ B2.out).mono ?_
      rintro e w3 ⟨rfl, hb3'⟩
      have B3 := Lib.hid (B2.out.trans (hb3'.mono B2.out.size))
      have K3 := Lib.hid (K2.out.trans (hb3'.mono K2.out.size))
      clear hb3'
      go_wp2_with fail
      go_ret
      exact ⟨by rw [HR.out]; first | done | rfl, B3.out⟩
    | true =>
      have HR := Lib.hid (show R = true by rw [hR]; first | done | rfl)
      clear hR
      go_enter Tryz.func76, Tryz.ntmps76
      go_wp2_with fail
      rw [← hW0]
      clear hW0
      refine (hc0.out _ HW0.out).mono ?_
      rintro e w1 ⟨rfl, hb1'⟩
      have B1 := Lib.hid (HW0.out.trans (hb1'.mono HW0.out.size))
      have K1 := Lib.hid hb1'
      clear hb1'
      obtain ⟨z0_0, z0_1, z0_2⟩ := hz0.out _ K1.out
      go_wp2_with fail
      refine (hc1.out _ B1.out).mono ?_
      rintro e w2 ⟨rfl, hb2'⟩
      have B2 := Lib.hid (B1.out.trans (hb2'.mono B1.out.size))
      have K2 := Lib.hid (K1.out.trans (hb2'.mono K1.out.size))
      clear hb2'
      obtain ⟨z1_0, z1_1, z1_2⟩ := hz1.out _ K2.out
      go_wp2_with fail
      refine (hc2.out _ B2.out).mono ?_
      rintro e w3 ⟨rfl, hb3'⟩
      have B3 := Lib.hid (B2.out.trans (hb3'.mono B2.out.size))
      have K3 := Lib.hid (K2.out.trans (hb3'.mono K2.out.size))
      clear hb3'
      go_wp2_with fail
      go_ret
      exact ⟨by rw [HR.out]; first | done | rfl, B3.out⟩

theorem validVariant_any (n : Nat) (f : Fd5) (w : World) (hF : FdH n w f) (hV : Vz w) : Calls Tryz.prog 76 #[fdV f] w fun e w' => e = .returned (.bool (vaOk f)) ∧ Below w.heap.size w w' := by
  obtain ⟨nm, ⟨k, tn, h, l⟩⟩ := f
  cases hz : tyEq (.mk k tn h l) tyZ with
  | true => exact vaYes n nm k tn h l w hF hV hz
  | false => exact vaNo n nm k tn h l w hF hV hz

set_option maxRecDepth 100000 in
set_option maxHeartbeats 4000000 in
theorem validEnum_any (n : Nat) (s : En5) (w : World) (hS : EnH n w s) (hV : Vz w) : Calls Tryz.prog 43 #[enV s] w fun e w' => e = .returned (.bool (enOk s)) ∧ Below w.heap.size w w' := by
  obtain ⟨en1, eh1, ev1, ep1⟩ := s
  obtain ⟨R, hR⟩ : ∃ R, R = (enOk ⟨en1, eh1, ev1, ep1⟩) := ⟨_, rfl⟩
  rw [← hR]
  replace hR : R = ((greatN en1) && (ev1.all vaOk)) := hR.trans (by rfl)
  have hc0 : ∀ W, Below w.heap.size w W → Calls Tryz.prog 72 #[.string en1] W fun e w' => e = .returned (.bool (greatN en1)) ∧ Below W.heap.size W w' := fun W hW => greatN_b en1 W (hV.b hW)
  obtain ⟨b0, hb0⟩ : ∃ b, b = (greatN en1) := ⟨_, rfl⟩
  rw [← hb0] at hR hc0
  clear hb0
  replace hc0 := Lib.hid hc0
  have hc1 : ∀ W, Below w.heap.size w W → Calls Tryz.prog 75 #[.slice eh1.oa ev1.length eh1.cap, .func (.func 76) #[] #[]] W fun e w' => e = .returned (.bool (ev1.all vaOk)) ∧ Below W.heap.size W w' := fun W hW => allVa_any 76 enters76 vaOk (FdH n) (fun _ _ _ h hb => FdH.below h hb) W (fun x W2 hx hW2 => validVariant_any n x W2 hx ((hV.b hW).b hW2)) eh1 ev1 (Row.below hS hW fun _ _ hx => FdH.below hx hW)
  obtain ⟨b1, hb1⟩ : ∃ b, b = (ev1.all vaOk) := ⟨_, rfl⟩
  rw [← hb1] at hR hc1
  clear hb1
  replace hc1 := Lib.hid hc1
  simp only [enV, enC]
  obtain ⟨W0, hW0⟩ : ∃ W, W = (w.alloc (.cells #[.string en1, .slice eh1.oa ev1.length eh1.cap, .int .i64 ep1] 68)) := ⟨_, rfl⟩
  have HW0 : Below w.heap.size w W0 := by rw [hW0]; exact (Below.refl _ _).alloc (Nat.le_refl _) _
  replace HW0 := Lib.hid HW0
  have r0 : W0.rangeAt (w.heap.size) 0 [.string en1, .slice eh1.oa ev1.length eh1.cap, .int .i64 ep1] := by
    have := rangeAt_box w [.string en1, .slice eh1.oa ev1.length eh1.cap, .int .i64 ep1] 68
    rw [hW0]
    simpa using this
  have hz0 := Lib.hid (show ∀ w', Below W0.heap.size W0 w' → (w'.cell? ⟨w.heap.size, 1, none⟩ = some (.slice eh1.oa ev1.length eh1.cap)) from fun w' hb => rangeAt_below r0 hb 1 _ rfl)
  clear r0
  cases b0 with
  | false =>
    have HR := Lib.hid (show R = false by rw [hR]; first | done | rfl)
    clear hR
    go_enter Tryz.func43, Tryz.ntmps43
    go_wp2_with fail
    rw [← hW0]
    clear hW0
    refine (hc0.out _ HW0.out).mono ?_
    rintro e w1 ⟨rfl, hb1'⟩
    have B1 := Lib.hid (HW0.out.trans (hb1'.mono HW0.out.size))
    have K1 := Lib.hid hb1'
    clear hb1'
    have z0_0 := hz0.out _ K1.out
    go_wp2_with fail
    go_ret
    exact ⟨by rw [HR.out]; first | done | rfl, B1.out⟩
  | true =>
    cases b1 with
    | false =>
      have HR := Lib.hid (show R = false by rw [hR]; first | done | rfl)
      clear hR
      go_enter Tryz.func43, Tryz.ntmps43
      go_wp2_with fail
      rw [← hW0]
      clear hW0
      refine (hc0.out _ HW0.out).mono ?_
      rintro e w1 ⟨rfl, hb1'⟩
      have B1 := Lib.hid (HW0.out.trans (hb1'.mono HW0.out.size))
      have K1 := Lib.hid hb1'
      clear hb1'
      have z0_0 := hz0.out _ K1.out
      go_wp2_with fail
      refine (hc1.out _ B1.out).mono ?_
      rintro e w2 ⟨rfl, hb2'⟩
      have B2 := Lib.hid (B1.out.trans (hb2'.mono B1.out.size))
      have K2 := Lib.hid (K1.out.trans (hb2'.mono K1.out.size))
      clear hb2'
      go_wp2_with fail
      go_ret
      exact ⟨by rw [HR.out]; first | done | rfl, B2.out⟩
    | true =>
      have HR := Lib.hid (show R = true by rw [hR]; first | done | rfl)
      clear hR
      go_enter Tryz.func43, Tryz.ntmps43
      go_wp2_with fail
      rw [← hW0]
      clear hW0
      refine (hc0.out _ HW0.out).mono ?_
      rintro e w1 ⟨rfl, hb1'⟩
      have B1 := Lib.hid (HW0.out.trans (hb1'.mono HW0.out.size))
      have K1 := Lib.hid hb1'
      clear hb1'
      have z0_0 := hz0.out _ K1.out
      go_wp2_with fail
      refine (hc1.out _ B1.out).mono ?_
      rintro e w2 ⟨rfl, hb2'⟩
      have B2 := Lib.hid (B1.out.trans (hb2'.mono B1.out.size))
      have K2 := Lib.hid (K1.out.trans (hb2'.mono K1.out.size))
      clear hb2'
      go_wp2_with fail
      go_ret
      exact ⟨by rw [HR.out]; first | done | rfl, B2.out⟩

end Go.Proofs.YtgogdcpgfmndnaaGreatDoor
