/-
  SameOper of the reference's text. Conditions: what is compared lies in the heap.
-/
import Derived.Test.YtgogdcpgfmndnaaGreatDoorTRefB
namespace Go.Proofs.YtgogdcpgfmndnaaGreatDoor
open Go.RowKit

set_option maxRecDepth 100000 in
set_option maxHeartbeats 4000000 in
theorem rSameOper_any (a b : Op5) (w : World) (hA : OpH w a) (hB : OpH w b) : Calls Tryz.prog 88 #[opV a, opV b] w fun e w' => e = .returned (.bool (opEq a b)) ∧ Below w.heap.size w w' := by
  obtain ⟨on1, oi1, ⟨pn1, ph1, pp1⟩⟩ := a
  obtain ⟨on2, oi2, ⟨pn2, ph2, pp2⟩⟩ := b
  obtain ⟨R, hR⟩ : ∃ R, R = opEq ⟨on1, oi1, ⟨pn1, ph1, pp1⟩⟩ ⟨on2, oi2, ⟨pn2, ph2, pp2⟩⟩ := ⟨_, rfl⟩
  rw [← hR]
  replace hR : R = (decide (on1 = on2) && decide (oi1 = oi2) && plEq ⟨pn1, ph1, pp1⟩ ⟨pn2, ph2, pp2⟩) := hR.trans (by rfl)
  have t0 : (on1 == on2) = decide (on1 = on2) := by rw [Bool.eq_iff_iff]; simp
  have t1 : (oi1 == oi2) = decide (oi1 = oi2) := by rw [Bool.eq_iff_iff]; simp
  have hc2 : ∀ W, Below w.heap.size w W → Calls Tryz.prog 86 #[plV ⟨pn1, ph1, pp1⟩, plV ⟨pn2, ph2, pp2⟩] W fun e w' => e = .returned (.bool (plEq ⟨pn1, ph1, pp1⟩ ⟨pn2, ph2, pp2⟩)) ∧ Below W.heap.size W w' := fun W hW => rSamePlace_any _ _ W (hA.2.below hW) (hB.2.below hW)
  obtain ⟨b0, hb0⟩ : ∃ b, b = (decide (on1 = on2)) := ⟨_, rfl⟩
  rw [← hb0] at hR t0
  clear hb0
  obtain ⟨b1, hb1⟩ : ∃ b, b = (decide (oi1 = oi2)) := ⟨_, rfl⟩
  rw [← hb1] at hR t1
  clear hb1
  obtain ⟨b2, hb2⟩ : ∃ b, b = (plEq ⟨pn1, ph1, pp1⟩ ⟨pn2, ph2, pp2⟩) := ⟨_, rfl⟩
  rw [← hb2] at hR hc2
  clear hb2
  simp only [plV, plC] at hc2
  replace hc2 := Lib.hid hc2
  simp only [opV, opC, plC, List.cons_append, List.nil_append]
  obtain ⟨W0, hW0⟩ : ∃ W, W = ((w.alloc (.cells #[.bool on1, .int .i64 oi1, .string pn1, .slice ph1.oa pp1.length ph1.cap] 41)).alloc (.cells #[.bool on2, .int .i64 oi2, .string pn2, .slice ph2.oa pp2.length ph2.cap] 41)) := ⟨_, rfl⟩
  have hbx := box_two w #[.bool on1, .int .i64 oi1, .string pn1, .slice ph1.oa pp1.length ph1.cap] #[.bool on2, .int .i64 oi2, .string pn2, .slice ph2.oa pp2.length ph2.cap] 41 41
  rw [← hW0] at hbx
  have HB0 := Lib.hid hbx.1
  have HZ := Lib.hid (show ∀ w', Below W0.heap.size W0 w' → w'.cell? ⟨w.heap.size, 0, none⟩ = some (.bool on1) ∧ w'.cell? ⟨w.heap.size, 1, none⟩ = some (.int .i64 oi1) ∧ w'.cell? ⟨w.heap.size + 1, 0, none⟩ = some (.bool on2) ∧ w'.cell? ⟨w.heap.size + 1, 1, none⟩ = some (.int .i64 oi2) from fun w' hb => by
    obtain ⟨x0, x1, -⟩ := cells4 (keepB hbx.2.1 hb)
    obtain ⟨y0, y1, -⟩ := cells4 (keepB hbx.2.2 hb)
    exact ⟨x0, x1, y0, y1⟩)
  clear hbx
  cases b2 with
  | false =>
    have HR := Lib.hid (show R = false by rw [hR]; simp)
    clear hR
    go_enter Tryz.func88, Tryz.ntmps88
    go_wp2_with (go_at_call 86; refine (hc2.out _ (by first | exact HB0.out | (rw [← hW0]; exact HB0.out))).mono ?_; rintro e w1 ⟨rfl, hb1⟩; try rw [← hW0] at hb1; obtain ⟨x0, x1, y0, y1⟩ := HZ.out w1 hb1; have B1 : Below w.heap.size w w1 := HB0.out.trans (hb1.mono HB0.out.size); clear hb1; replace B1 := Lib.hid B1)
    go_ret
    exact ⟨by rw [HR.out]; first | done | rfl, B1.out⟩
  | true =>
  cases b0 with
  | false =>
    have HR := Lib.hid (show R = false by rw [hR]; rfl)
    clear hR
    go_enter Tryz.func88, Tryz.ntmps88
    go_wp2_with (go_at_call 86; refine (hc2.out _ (by first | exact HB0.out | (rw [← hW0]; exact HB0.out))).mono ?_; rintro e w1 ⟨rfl, hb1⟩; try rw [← hW0] at hb1; obtain ⟨x0, x1, y0, y1⟩ := HZ.out w1 hb1; have B1 : Below w.heap.size w w1 := HB0.out.trans (hb1.mono HB0.out.size); clear hb1; replace B1 := Lib.hid B1)
    go_ret
    exact ⟨by rw [HR.out]; first | done | rfl, B1.out⟩
  | true =>
  cases b1 with
  | false =>
    have HR := Lib.hid (show R = false by rw [hR]; rfl)
    clear hR
    go_enter Tryz.func88, Tryz.ntmps88
    go_wp2_with (go_at_call 86; refine (hc2.out _ (by first | exact HB0.out | (rw [← hW0]; exact HB0.out))).mono ?_; rintro e w1 ⟨rfl, hb1⟩; try rw [← hW0] at hb1; obtain ⟨x0, x1, y0, y1⟩ := HZ.out w1 hb1; have B1 : Below w.heap.size w w1 := HB0.out.trans (hb1.mono HB0.out.size); clear hb1; replace B1 := Lib.hid B1)
    go_ret
    exact ⟨by rw [HR.out]; first | done | rfl, B1.out⟩
  | true =>
    have HR := Lib.hid (show R = true by rw [hR]; rfl)
    clear hR
    go_enter Tryz.func88, Tryz.ntmps88
    go_wp2_with (go_at_call 86; refine (hc2.out _ (by first | exact HB0.out | (rw [← hW0]; exact HB0.out))).mono ?_; rintro e w1 ⟨rfl, hb1⟩; try rw [← hW0] at hb1; obtain ⟨x0, x1, y0, y1⟩ := HZ.out w1 hb1; have B1 : Below w.heap.size w w1 := HB0.out.trans (hb1.mono HB0.out.size); clear hb1; replace B1 := Lib.hid B1)
    go_ret
    exact ⟨by rw [HR.out]; first | done | rfl, B1.out⟩

end Go.Proofs.YtgogdcpgfmndnaaGreatDoor
