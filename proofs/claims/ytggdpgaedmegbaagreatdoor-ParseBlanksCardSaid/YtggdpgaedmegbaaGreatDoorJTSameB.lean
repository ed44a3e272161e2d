/-
  sameOper, sameType, sameSet of tree. Conditions: what is compared lies in the heap.
-/
import Derived.Test.YtggdpgaedmegbaaGreatDoorJTSameA
namespace Go.Proofs.YtggdpgaedmegbaaGreatDoor
open Go.RowKit

set_option maxRecDepth 100000 in
set_option maxHeartbeats 4000000 in
theorem sameOper_any (a b : Op5) (w : World) (hA : OpH w a) (hB : OpH w b) : Calls Tryz.prog 259 #[opV a, opV b] w fun e w' => e = .returned (.bool (opEq a b)) ∧ Below w.heap.size w w' := by
  obtain ⟨on1, oi1, ⟨pn1, ph1, pp1⟩⟩ := a
  obtain ⟨on2, oi2, ⟨pn2, ph2, pp2⟩⟩ := b
  obtain ⟨R, hR⟩ : ∃ R, R = opEq ⟨on1, oi1, ⟨pn1, ph1, pp1⟩⟩ ⟨on2, oi2, ⟨pn2, ph2, pp2⟩⟩ := ⟨_, rfl⟩
  rw [← hR]
  replace hR : R = (decide (on1 = on2) && decide (oi1 = oi2) && plEq ⟨pn1, ph1, pp1⟩ ⟨pn2, ph2, pp2⟩) := hR.trans (by rfl)
  have t0 : (on1 == on2) = decide (on1 = on2) := by rw [Bool.eq_iff_iff]; simp
  have t1 : (oi1 == oi2) = decide (oi1 = oi2) := by rw [Bool.eq_iff_iff]; simp
  have hc2 : ∀ W, Below w.heap.size w W → Calls Tryz.prog 257 #[plV ⟨pn1, ph1, pp1⟩, plV ⟨pn2, ph2, pp2⟩] W fun e w' => e = .returned (.bool (plEq ⟨pn1, ph1, pp1⟩ ⟨pn2, ph2, pp2⟩)) ∧ Below W.heap.size W w' := fun W hW => samePlace_any _ _ W (hA.2.below hW) (hB.2.below hW)
  obtain ⟨b0, hb0⟩ : ∃ b, b = (decide (on1 = on2)) := ⟨_, rfl⟩
  rw [← hb0] at hR t0
  clear hb0
  obtain ⟨b1, hb1⟩ : ∃ b, b = (decide (oi1 = oi2)) := ⟨_, rfl⟩
  rw [← hb1] at hR t1
  clear hb1
  obtain ⟨b2, hb2⟩ : ∃ b, b = (plEq ⟨pn1, ph1, pp1⟩ ⟨pn2, ph2, pp2⟩) := ⟨_, rfl⟩
  rw [← hb2] at hR hc2
  clear hb2
  simp only [plV, plC] at hc2
  replace hc2 := Lib.hid hc2
  simp only [opV, opC, plC, List.cons_append, List.nil_append]
  obtain ⟨W0, hW0⟩ : ∃ W, W = ((w.alloc (.cells #[.bool on1, .int .i64 oi1, .string pn1, .slice ph1.oa pp1.length ph1.cap] 105)).alloc (.cells #[.bool on2, .int .i64 oi2, .string pn2, .slice ph2.oa pp2.length ph2.cap] 105)) := ⟨_, rfl⟩
  have HW0 : Below w.heap.size w W0 := by rw [hW0]; exact (((Below.refl _ _).alloc (Nat.le_refl _) _).alloc (by simp) _)
  replace HW0 := Lib.hid HW0
  cases b0 with
  | false =>
    have HR := Lib.hid (show R = false by rw [hR]; rfl)
    clear hR
    go_enter Tryz.func259, Tryz.ntmps259
    go_wp2_with fail
    go_ret
    exact ⟨by rw [HR.out]; first | done | rfl, (by rw [← hW0]; exact HW0.out)⟩
  | true =>
  cases b1 with
  | false =>
    have HR := Lib.hid (show R = false by rw [hR]; rfl)
    clear hR
    go_enter Tryz.func259, Tryz.ntmps259
    go_wp2_with fail
    go_ret
    exact ⟨by rw [HR.out]; first | done | rfl, (by rw [← hW0]; exact HW0.out)⟩
  | true =>
  cases b2 with
  | false =>
    have HR := Lib.hid (show R = false by rw [hR]; rfl)
    clear hR
    go_enter Tryz.func259, Tryz.ntmps259
    go_wp2_with fail
    rw [← hW0]
    clear hW0
    refine (hc2.out _ HW0.out).mono ?_
    rintro e w1 ⟨rfl, hb1⟩
    have B1 := Lib.hid (HW0.out.trans (hb1.mono HW0.out.size))
    have K1 := Lib.hid hb1
    clear hb1
    go_wp2_with fail
    go_ret
    exact ⟨by rw [HR.out]; first | done | rfl, B1.out⟩
  | true =>
  have HR := Lib.hid (show R = true by rw [hR]; rfl)
  clear hR
  go_enter Tryz.func259, Tryz.ntmps259
  go_wp2_with fail
  rw [← hW0]
  clear hW0
  refine (hc2.out _ HW0.out).mono ?_
  rintro e w1 ⟨rfl, hb1⟩
  have B1 := Lib.hid (HW0.out.trans (hb1.mono HW0.out.size))
  have K1 := Lib.hid hb1
  clear hb1
  go_wp2_with fail
  go_ret
  exact ⟨by rw [HR.out]; first | done | rfl, B1.out⟩

set_option maxRecDepth 100000 in
set_option maxHeartbeats 4000000 in
theorem sameType_step (n : Nat) (ih : ∀ (x y : Ty5) (w : World), TyH n w x → TyH n w y → Calls Tryz.prog 191 #[tyV x, tyV y] w fun e w' => e = .returned (.bool (tyEq x y)) ∧ Below w.heap.size w w') (a b : Ty5) (w : World) (hA : TyH (n + 1) w a) (hB : TyH (n + 1) w b) : Calls Tryz.prog 191 #[tyV a, tyV b] w fun e w' => e = .returned (.bool (tyEq a b)) ∧ Below w.heap.size w w' := by
  obtain ⟨k1, nm1, h1, l1⟩ := a
  obtain ⟨k2, nm2, h2, l2⟩ := b
  obtain ⟨R, hR⟩ : ∃ R, R = tyEq (.mk k1 nm1 h1 l1) (.mk k2 nm2 h2 l2) := ⟨_, rfl⟩
  rw [← hR]
  replace hR : R = (decide (k1 = k2) && decide (nm1 = nm2) && eqL tyEq l1 l2) := hR.trans (by rw [tyEq, tysEq_eq])
  have t0 : (k1 == k2) = decide (k1 = k2) := by rw [Bool.eq_iff_iff]; simp
  have t1 := strq_eq nm1 nm2
  have hc2 : ∀ W, Below w.heap.size w W → Calls Tryz.prog 256 #[.slice h1.oa l1.length h1.cap, .slice h2.oa l2.length h2.cap, .func (.func 191) #[] #[]] W fun e w' => e = .returned (.bool (eqL tyEq l1 l2)) ∧ Below W.heap.size W w' := fun W hW => eqTy_any 191 entersq96 tyEq (TyH n) (fun _ _ _ h hb => TyH.below n h hb) ih h1 h2 l1 l2 W (hA.2.below hW fun _ _ hx => TyH.below n hx hW) (hB.2.below hW fun _ _ hx => TyH.below n hx hW)
  obtain ⟨b0, hb0⟩ : ∃ b, b = (decide (k1 = k2)) := ⟨_, rfl⟩
  rw [← hb0] at hR t0
  clear hb0
  obtain ⟨b1, hb1⟩ : ∃ b, b = (decide (nm1 = nm2)) := ⟨_, rfl⟩
  rw [← hb1] at hR t1
  clear hb1
  obtain ⟨b2, hb2⟩ : ∃ b, b = (eqL tyEq l1 l2) := ⟨_, rfl⟩
  rw [← hb2] at hR hc2
  clear hb2
  replace hc2 := Lib.hid hc2
  simp only [tyV, tyC]
  obtain ⟨W0, hW0⟩ : ∃ W, W = ((w.alloc (.cells #[.int .i64 k1, .string nm1, .slice h1.oa l1.length h1.cap] 51)).alloc (.cells #[.int .i64 k2, .string nm2, .slice h2.oa l2.length h2.cap] 51)) := ⟨_, rfl⟩
  have HW0 : Below w.heap.size w W0 := by rw [hW0]; exact (((Below.refl _ _).alloc (Nat.le_refl _) _).alloc (by simp) _)
  replace HW0 := Lib.hid HW0
  cases b0 with
  | false =>
    have HR := Lib.hid (show R = false by rw [hR]; rfl)
    clear hR
    go_enter Tryz.func191, Tryz.ntmps191
    go_wp2_with fail
    go_ret
    exact ⟨by rw [HR.out]; first | done | rfl, (by rw [← hW0]; exact HW0.out)⟩
  | true =>
  cases b1 with
  | false =>
    have HR := Lib.hid (show R = false by rw [hR]; rfl)
    clear hR
    go_enter Tryz.func191, Tryz.ntmps191
    go_wp2_with fail
    go_ret
    exact ⟨by rw [HR.out]; first | done | rfl, (by rw [← hW0]; exact HW0.out)⟩
  | true =>
  cases b2 with
  | false =>
    have HR := Lib.hid (show R = false by rw [hR]; rfl)
    clear hR
    go_enter Tryz.func191, Tryz.ntmps191
    go_wp2_with fail
    rw [← hW0]
    clear hW0
    refine (hc2.out _ HW0.out).mono ?_
    rintro e w1 ⟨rfl, hb1⟩
    have B1 := Lib.hid (HW0.out.trans (hb1.mono HW0.out.size))
    have K1 := Lib.hid hb1
    clear hb1
    go_wp2_with fail
    go_ret
    exact ⟨by rw [HR.out]; first | done | rfl, B1.out⟩
  | true =>
  have HR := Lib.hid (show R = true by rw [hR]; rfl)
  clear hR
  go_enter Tryz.func191, Tryz.ntmps191
  go_wp2_with fail
  rw [← hW0]
  clear hW0
  refine (hc2.out _ HW0.out).mono ?_
  rintro e w1 ⟨rfl, hb1⟩
  have B1 := Lib.hid (HW0.out.trans (hb1.mono HW0.out.size))
  have K1 := Lib.hid hb1
  clear hb1
  go_wp2_with fail
  go_ret
  exact ⟨by rw [HR.out]; first | done | rfl, B1.out⟩

theorem sameType_any : ∀ (n : Nat) (a b : Ty5) (w : World), TyH n w a → TyH n w b → Calls Tryz.prog 191 #[tyV a, tyV b] w fun e w' => e = .returned (.bool (tyEq a b)) ∧ Below w.heap.size w w'
  | 0, _, _, _, h, _ => h.elim
  | n + 1, a, b, w, hA, hB => sameType_step n (sameType_any n) a b w hA hB

set_option maxRecDepth 100000 in
set_option maxHeartbeats 4000000 in
theorem sameSet_any (a b : Rv5) (w : World) (hA : RvH w a) (hB : RvH w b) : Calls Tryz.prog 258 #[rvV a, rvV b] w fun e w' => e = .returned (.bool (rvEq a b)) ∧ Below w.heap.size w w' := by
  obtain ⟨rk1, rh1, ro1, ⟨pnr1, phr1, ppr1⟩, rn1, rr1⟩ := a
  obtain ⟨rk2, rh2, ro2, ⟨pnr2, phr2, ppr2⟩, rn2, rr2⟩ := b
  obtain ⟨R, hR⟩ : ∃ R, R = rvEq ⟨rk1, rh1, ro1, ⟨pnr1, phr1, ppr1⟩, rn1, rr1⟩ ⟨rk2, rh2, ro2, ⟨pnr2, phr2, ppr2⟩, rn2, rr2⟩ := ⟨_, rfl⟩
  rw [← hR]
  replace hR : R = (decide (rk1 = rk2) && decide (rn1 = rn2) && decide (rr1 = rr2) && plEq ⟨pnr1, phr1, ppr1⟩ ⟨pnr2, phr2, ppr2⟩ && eqL opEq ro1 ro2) := hR.trans (by rfl)
  have t0 : (rk1 == rk2) = decide (rk1 = rk2) := by rw [Bool.eq_iff_iff]; simp
  have t1 := strq_eq rn1 rn2
  have t2 := strq_eq rr1 rr2
  have hc3 : ∀ W, Below w.heap.size w W → Calls Tryz.prog 257 #[plV ⟨pnr1, phr1, ppr1⟩, plV ⟨pnr2, phr2, ppr2⟩] W fun e w' => e = .returned (.bool (plEq ⟨pnr1, phr1, ppr1⟩ ⟨pnr2, phr2, ppr2⟩)) ∧ Below W.heap.size W w' := fun W hW => samePlace_any _ _ W (hA.2.2.below hW) (hB.2.2.below hW)
  have hc4 : ∀ W, Below w.heap.size w W → Calls Tryz.prog 302 #[.slice rh1.oa ro1.length rh1.cap, .slice rh2.oa ro2.length rh2.cap, .func (.func 259) #[] #[]] W fun e w' => e = .returned (.bool (eqL opEq ro1 ro2)) ∧ Below W.heap.size W w' := fun W hW => eqOp_any 259 entersq115 opEq OpH (fun _ _ _ h hb => OpH.below h hb) sameOper_any rh1 rh2 ro1 ro2 W (hA.2.1.below hW fun _ _ hx => OpH.below hx hW) (hB.2.1.below hW fun _ _ hx => OpH.below hx hW)
  obtain ⟨b0, hb0⟩ : ∃ b, b = (decide (rk1 = rk2)) := ⟨_, rfl⟩
  rw [← hb0] at hR t0
  clear hb0
  obtain ⟨b1, hb1⟩ : ∃ b, b = (decide (rn1 = rn2)) := ⟨_, rfl⟩
  rw [← hb1] at hR t1
  clear hb1
  obtain ⟨b2, hb2⟩ : ∃ b, b = (decide (rr1 = rr2)) := ⟨_, rfl⟩
  rw [← hb2] at hR t2
  clear hb2
  obtain ⟨b3, hb3⟩ : ∃ b, b = (plEq ⟨pnr1, phr1, ppr1⟩ ⟨pnr2, phr2, ppr2⟩) := ⟨_, rfl⟩
  rw [← hb3] at hR hc3
  clear hb3
  replace hc3 := Lib.hid hc3
  obtain ⟨b4, hb4⟩ : ∃ b, b = (eqL opEq ro1 ro2) := ⟨_, rfl⟩
  rw [← hb4] at hR hc4
  clear hb4
  replace hc4 := Lib.hid hc4
  replace hc3 := hc3.out
  simp only [plV, plC] at hc3
  replace hc3 := Lib.hid hc3
  simp only [rvV, rvC, plC, List.cons_append, List.nil_append]
  obtain ⟨W0, hW0⟩ : ∃ W, W = ((w.alloc (.cells #[.int .i64 rk1, .slice rh1.oa ro1.length rh1.cap, .string pnr1, .slice phr1.oa ppr1.length phr1.cap, .string rn1, .string rr1] 103)).alloc (.cells #[.int .i64 rk2, .slice rh2.oa ro2.length rh2.cap, .string pnr2, .slice phr2.oa ppr2.length phr2.cap, .string rn2, .string rr2] 103)) := ⟨_, rfl⟩
  have HW0 : Below w.heap.size w W0 := by rw [hW0]; exact (((Below.refl _ _).alloc (Nat.le_refl _) _).alloc (by simp) _)
  replace HW0 := Lib.hid HW0
  have r1 : W0.rangeAt w.heap.size 0 [.int .i64 rk1, .slice rh1.oa ro1.length rh1.cap, .string pnr1, .slice phr1.oa ppr1.length phr1.cap, .string rn1, .string rr1] := by rw [hW0]; exact rangeAt_below (rangeAt_box w [.int .i64 rk1, .slice rh1.oa ro1.length rh1.cap, .string pnr1, .slice phr1.oa ppr1.length phr1.cap, .string rn1, .string rr1] 103) (alloc_below _ _)
  have r2 : W0.rangeAt (w.heap.size + 1) 0 [.int .i64 rk2, .slice rh2.oa ro2.length rh2.cap, .string pnr2, .slice phr2.oa ppr2.length phr2.cap, .string rn2, .string rr2] := by
    have := rangeAt_box (w.alloc (.cells #[.int .i64 rk1, .slice rh1.oa ro1.length rh1.cap, .string pnr1, .slice phr1.oa ppr1.length phr1.cap, .string rn1, .string rr1] 103)) [.int .i64 rk2, .slice rh2.oa ro2.length rh2.cap, .string pnr2, .slice phr2.oa ppr2.length phr2.cap, .string rn2, .string rr2] 103
    rw [hW0]
    simpa using this
  have hz4 := Lib.hid (show ∀ w', Below W0.heap.size W0 w' → (w'.cell? ⟨w.heap.size, 1, none⟩ = some (.slice rh1.oa ro1.length rh1.cap) ∧ w'.cell? ⟨w.heap.size + 1, 1, none⟩ = some (.slice rh2.oa ro2.length rh2.cap)) from fun w' hb => by
    have q : ∀ (n : Nat), 0 + n = n := Nat.zero_add
    exact ⟨rangeAt_below r1 hb 1 _ rfl, rangeAt_below r2 hb 1 _ rfl⟩)
  clear r1 r2
  cases b0 with
  | false =>
    have HR := Lib.hid (show R = false by rw [hR]; rfl)
    clear hR
    go_enter Tryz.func258, Tryz.ntmps258
    go_wp2_with fail
    go_ret
    exact ⟨by rw [HR.out]; first | done | rfl, (by rw [← hW0]; exact HW0.out)⟩
  | true =>
  cases b1 with
  | false =>
    have HR := Lib.hid (show R = false by rw [hR]; rfl)
    clear hR
    go_enter Tryz.func258, Tryz.ntmps258
    go_wp2_with fail
    go_ret
    exact ⟨by rw [HR.out]; first | done | rfl, (by rw [← hW0]; exact HW0.out)⟩
  | true =>
  cases b2 with
  | false =>
    have HR := Lib.hid (show R = false by rw [hR]; rfl)
    clear hR
    go_enter Tryz.func258, Tryz.ntmps258
    go_wp2_with fail
    go_ret
    exact ⟨by rw [HR.out]; first | done | rfl, (by rw [← hW0]; exact HW0.out)⟩
  | true =>
  cases b3 with
  | false =>
    have HR := Lib.hid (show R = false by rw [hR]; rfl)
    clear hR
    go_enter Tryz.func258, Tryz.ntmps258
    go_wp2_with fail
    rw [← hW0]
    clear hW0
    refine (hc3.out _ HW0.out).mono ?_
    rintro e w1 ⟨rfl, hb1⟩
    have B1 := Lib.hid (HW0.out.trans (hb1.mono HW0.out.size))
    have K1 := Lib.hid hb1
    clear hb1
    go_wp2_with fail
    go_ret
    exact ⟨by rw [HR.out]; first | done | rfl, B1.out⟩
  | true =>
  cases b4 with
  | false =>
    have HR := Lib.hid (show R = false by rw [hR]; rfl)
    clear hR
    go_enter Tryz.func258, Tryz.ntmps258
    go_wp2_with fail
    rw [← hW0]
    clear hW0
    refine (hc3.out _ HW0.out).mono ?_
    rintro e w1 ⟨rfl, hb1⟩
    have B1 := Lib.hid (HW0.out.trans (hb1.mono HW0.out.size))
    have K1 := Lib.hid hb1
    clear hb1
    obtain ⟨z4_0, z4_1⟩ := hz4.out _ K1.out
    go_wp2_with fail
    refine (hc4.out _ B1.out).mono ?_
    rintro e w2 ⟨rfl, hb2⟩
    have B2 := Lib.hid (B1.out.trans (hb2.mono B1.out.size))
    have K2 := Lib.hid (K1.out.trans (hb2.mono K1.out.size))
    clear hb2
    go_wp2_with fail
    go_ret
    exact ⟨by rw [HR.out]; first | done | rfl, B2.out⟩
  | true =>
  have HR := Lib.hid (show R = true by rw [hR]; rfl)
  clear hR
  go_enter Tryz.func258, Tryz.ntmps258
  go_wp2_with fail
  rw [← hW0]
  clear hW0
  refine (hc3.out _ HW0.out).mono ?_
  rintro e w1 ⟨rfl, hb1⟩
  have B1 := Lib.hid (HW0.out.trans (hb1.mono HW0.out.size))
  have K1 := Lib.hid hb1
  clear hb1
  obtain ⟨z4_0, z4_1⟩ := hz4.out _ K1.out
  go_wp2_with fail
  refine (hc4.out _ B1.out).mono ?_
  rintro e w2 ⟨rfl, hb2⟩
  have B2 := Lib.hid (B1.out.trans (hb2.mono B1.out.size))
  have K2 := Lib.hid (K1.out.trans (hb2.mono K1.out.size))
  clear hb2
  go_wp2_with fail
  go_ret
  exact ⟨by rw [HR.out]; first | done | rfl, B2.out⟩

end Go.Proofs.YtggdpgaedmegbaaGreatDoor
