/-
  sameField, sameVariant, sameStruct, sameEnum, sameRow, sameArm, sameFn of tree. Conditions: what is compared lies in the heap.
-/
import Derived.Test.YtggdpgaedmegbaaGreatDoorJTSameB
import Derived.Test.YtggdpgaedmegbaaGreatDoorJTEqs
import Derived.Test.YtggdpgaedmegbaaGreatDoorJTEqSt
namespace Go.Proofs.YtggdpgaedmegbaaGreatDoor
open Go.RowKit
theorem entersq35 (args : Array Value) (w : World) : (callFunc 48 args).run Tryz.prog w = .ok (.enter 48 args) w := Go.Proofs.enters_of Tryz.func48 (by kernel_rfl) rfl args w
theorem entersq37 (args : Array Value) (w : World) : (callFunc 50 args).run Tryz.prog w = .ok (.enter 50 args) w := Go.Proofs.enters_of Tryz.func50 (by kernel_rfl) rfl args w
theorem entersq39 (args : Array Value) (w : World) : (callFunc 52 args).run Tryz.prog w = .ok (.enter 52 args) w := Go.Proofs.enters_of Tryz.func52 (by kernel_rfl) rfl args w
theorem entersq68 (args : Array Value) (w : World) : (callFunc 116 args).run Tryz.prog w = .ok (.enter 116 args) w := Go.Proofs.enters_of Tryz.func116 (by kernel_rfl) rfl args w
theorem entersq70 (args : Array Value) (w : World) : (callFunc 118 args).run Tryz.prog w = .ok (.enter 118 args) w := Go.Proofs.enters_of Tryz.func118 (by kernel_rfl) rfl args w
theorem entersq98 (args : Array Value) (w : World) : (callFunc 193 args).run Tryz.prog w = .ok (.enter 193 args) w := Go.Proofs.enters_of Tryz.func193 (by kernel_rfl) rfl args w
theorem entersq117 (args : Array Value) (w : World) : (callFunc 261 args).run Tryz.prog w = .ok (.enter 261 args) w := Go.Proofs.enters_of Tryz.func261 (by kernel_rfl) rfl args w

set_option maxRecDepth 100000 in
set_option maxHeartbeats 4000000 in
theorem sameField_any (n : Nat) (a b : Fd5) (w : World) (hA : FdH n w a) (hB : FdH n w b) : Calls Tryz.prog 116 #[fdV a, fdV b] w fun e w' => e = .returned (.bool (fdEq a b)) ∧ Below w.heap.size w w' := by
  obtain ⟨fn1, ⟨k1, nm1, h1, l1⟩⟩ := a
  obtain ⟨fn2, ⟨k2, nm2, h2, l2⟩⟩ := b
  obtain ⟨R, hR⟩ : ∃ R, R = fdEq ⟨fn1, (.mk k1 nm1 h1 l1)⟩ ⟨fn2, (.mk k2 nm2 h2 l2)⟩ := ⟨_, rfl⟩
  rw [← hR]
  replace hR : R = (decide (fn1 = fn2) && tyEq (.mk k1 nm1 h1 l1) (.mk k2 nm2 h2 l2)) := hR.trans (by rfl)
  have t0 := strq_eq fn1 fn2
  have hc1 : ∀ W, Below w.heap.size w W → Calls Tryz.prog 191 #[tyV (.mk k1 nm1 h1 l1), tyV (.mk k2 nm2 h2 l2)] W fun e w' => e = .returned (.bool (tyEq (.mk k1 nm1 h1 l1) (.mk k2 nm2 h2 l2))) ∧ Below W.heap.size W w' := fun W hW => sameType_any n _ _ W (TyH.below n hA hW) (TyH.below n hB hW)
  obtain ⟨b0, hb0⟩ : ∃ b, b = (decide (fn1 = fn2)) := ⟨_, rfl⟩
  rw [← hb0] at hR t0
  clear hb0
  obtain ⟨b1, hb1⟩ : ∃ b, b = (tyEq (.mk k1 nm1 h1 l1) (.mk k2 nm2 h2 l2)) := ⟨_, rfl⟩
  rw [← hb1] at hR hc1
  clear hb1
  replace hc1 := Lib.hid hc1
  replace hc1 := hc1.out
  simp only [tyV, tyC] at hc1
  replace hc1 := Lib.hid hc1
  simp only [fdV, fdC, tyC]
  obtain ⟨W0, hW0⟩ : ∃ W, W = ((w.alloc (.cells #[.string fn1, .int .i64 k1, .string nm1, .slice h1.oa l1.length h1.cap] 56)).alloc (.cells #[.string fn2, .int .i64 k2, .string nm2, .slice h2.oa l2.length h2.cap] 56)) := ⟨_, rfl⟩
  have HW0 : Below w.heap.size w W0 := by rw [hW0]; exact (((Below.refl _ _).alloc (Nat.le_refl _) _).alloc (by simp) _)
  replace HW0 := Lib.hid HW0
  cases b0 with
  | false =>
    have HR := Lib.hid (show R = false by rw [hR]; rfl)
    clear hR
    go_enter Tryz.func116, Tryz.ntmps116
    go_wp2_with fail
    go_ret
    exact ⟨by rw [HR.out]; first | done | rfl, (by rw [← hW0]; exact HW0.out)⟩
  | true =>
  cases b1 with
  | false =>
    have HR := Lib.hid (show R = false by rw [hR]; rfl)
    clear hR
    go_enter Tryz.func116, Tryz.ntmps116
    go_wp2_with fail
    rw [← hW0]
    clear hW0
    refine (hc1.out _ HW0.out).mono ?_
    rintro e w1 ⟨rfl, hb1⟩
    have B1 := Lib.hid (HW0.out.trans (hb1.mono HW0.out.size))
    have K1 := Lib.hid hb1
    clear hb1
    go_wp2_with fail
    go_ret
    exact ⟨by rw [HR.out]; first | done | rfl, B1.out⟩
  | true =>
  have HR := Lib.hid (show R = true by rw [hR]; rfl)
  clear hR
  go_enter Tryz.func116, Tryz.ntmps116
  go_wp2_with fail
  rw [← hW0]
  clear hW0
  refine (hc1.out _ HW0.out).mono ?_
  rintro e w1 ⟨rfl, hb1⟩
  have B1 := Lib.hid (HW0.out.trans (hb1.mono HW0.out.size))
  have K1 := Lib.hid hb1
  clear hb1
  go_wp2_with fail
  go_ret
  exact ⟨by rw [HR.out]; first | done | rfl, B1.out⟩

set_option maxRecDepth 100000 in
set_option maxHeartbeats 4000000 in
theorem sameVariant_any (n : Nat) (a b : Fd5) (w : World) (hA : FdH n w a) (hB : FdH n w b) : Calls Tryz.prog 118 #[fdV a, fdV b] w fun e w' => e = .returned (.bool (fdEq a b)) ∧ Below w.heap.size w w' := by
  obtain ⟨fn1, ⟨k1, nm1, h1, l1⟩⟩ := a
  obtain ⟨fn2, ⟨k2, nm2, h2, l2⟩⟩ := b
  obtain ⟨R, hR⟩ : ∃ R, R = fdEq ⟨fn1, (.mk k1 nm1 h1 l1)⟩ ⟨fn2, (.mk k2 nm2 h2 l2)⟩ := ⟨_, rfl⟩
  rw [← hR]
  replace hR : R = (decide (fn1 = fn2) && tyEq (.mk k1 nm1 h1 l1) (.mk k2 nm2 h2 l2)) := hR.trans (by rfl)
  have t0 := strq_eq fn1 fn2
  have hc1 : ∀ W, Below w.heap.size w W → Calls Tryz.prog 191 #[tyV (.mk k1 nm1 h1 l1), tyV (.mk k2 nm2 h2 l2)] W fun e w' => e = .returned (.bool (tyEq (.mk k1 nm1 h1 l1) (.mk k2 nm2 h2 l2))) ∧ Below W.heap.size W w' := fun W hW => sameType_any n _ _ W (TyH.below n hA hW) (TyH.below n hB hW)
  obtain ⟨b0, hb0⟩ : ∃ b, b = (decide (fn1 = fn2)) := ⟨_, rfl⟩
  rw [← hb0] at hR t0
  clear hb0
  obtain ⟨b1, hb1⟩ : ∃ b, b = (tyEq (.mk k1 nm1 h1 l1) (.mk k2 nm2 h2 l2)) := ⟨_, rfl⟩
  rw [← hb1] at hR hc1
  clear hb1
  replace hc1 := Lib.hid hc1
  replace hc1 := hc1.out
  simp only [tyV, tyC] at hc1
  replace hc1 := Lib.hid hc1
  simp only [fdV, fdC, tyC]
  obtain ⟨W0, hW0⟩ : ∃ W, W = ((w.alloc (.cells #[.string fn1, .int .i64 k1, .string nm1, .slice h1.oa l1.length h1.cap] 63)).alloc (.cells #[.string fn2, .int .i64 k2, .string nm2, .slice h2.oa l2.length h2.cap] 63)) := ⟨_, rfl⟩
  have HW0 : Below w.heap.size w W0 := by rw [hW0]; exact (((Below.refl _ _).alloc (Nat.le_refl _) _).alloc (by simp) _)
  replace HW0 := Lib.hid HW0
  cases b0 with
  | false =>
    have HR := Lib.hid (show R = false by rw [hR]; rfl)
    clear hR
    go_enter Tryz.func118, Tryz.ntmps118
    go_wp2_with fail
    go_ret
    exact ⟨by rw [HR.out]; first | done | rfl, (by rw [← hW0]; exact HW0.out)⟩
  | true =>
  cases b1 with
  | false =>
    have HR := Lib.hid (show R = false by rw [hR]; rfl)
    clear hR
    go_enter Tryz.func118, Tryz.ntmps118
    go_wp2_with fail
    rw [← hW0]
    clear hW0
    refine (hc1.out _ HW0.out).mono ?_
    rintro e w1 ⟨rfl, hb1⟩
    have B1 := Lib.hid (HW0.out.trans (hb1.mono HW0.out.size))
    have K1 := Lib.hid hb1
    clear hb1
    go_wp2_with fail
    go_ret
    exact ⟨by rw [HR.out]; first | done | rfl, B1.out⟩
  | true =>
  have HR := Lib.hid (show R = true by rw [hR]; rfl)
  clear hR
  go_enter Tryz.func118, Tryz.ntmps118
  go_wp2_with fail
  rw [← hW0]
  clear hW0
  refine (hc1.out _ HW0.out).mono ?_
  rintro e w1 ⟨rfl, hb1⟩
  have B1 := Lib.hid (HW0.out.trans (hb1.mono HW0.out.size))
  have K1 := Lib.hid hb1
  clear hb1
  go_wp2_with fail
  go_ret
  exact ⟨by rw [HR.out]; first | done | rfl, B1.out⟩

set_option maxRecDepth 100000 in
set_option maxHeartbeats 4000000 in
theorem sameStruct_any (n : Nat) (a b : Su5) (w : World) (hA : SuH n w a) (hB : SuH n w b) : Calls Tryz.prog 48 #[suV a, suV b] w fun e w' => e = .returned (.bool (suEq a b)) ∧ Below w.heap.size w w' := by
  obtain ⟨un1, ud1, uh1, uf1, up1⟩ := a
  obtain ⟨un2, ud2, uh2, uf2, up2⟩ := b
  obtain ⟨R, hR⟩ : ∃ R, R = suEq ⟨un1, ud1, uh1, uf1, up1⟩ ⟨un2, ud2, uh2, uf2, up2⟩ := ⟨_, rfl⟩
  rw [← hR]
  replace hR : R = (decide (un1 = un2) && decide (ud1 = ud2) && eqL fdEq uf1 uf2) := hR.trans (by rfl)
  have t0 := strq_eq un1 un2
  have t1 : (ud1 == ud2) = decide (ud1 = ud2) := by rw [Bool.eq_iff_iff]; simp
  have hc2 : ∀ W, Below w.heap.size w W → Calls Tryz.prog 115 #[.slice uh1.oa uf1.length uh1.cap, .slice uh2.oa uf2.length uh2.cap, .func (.func 116) #[] #[]] W fun e w' => e = .returned (.bool (eqL fdEq uf1 uf2)) ∧ Below W.heap.size W w' := fun W hW => eqFd_any 116 entersq68 fdEq (FdH n) (fun _ _ _ h hb => FdH.below h hb) (sameField_any n) uh1 uh2 uf1 uf2 W (Row.below hA hW fun _ _ hx => FdH.below hx hW) (Row.below hB hW fun _ _ hx => FdH.below hx hW)
  obtain ⟨b0, hb0⟩ : ∃ b, b = (decide (un1 = un2)) := ⟨_, rfl⟩
  rw [← hb0] at hR t0
  clear hb0
  obtain ⟨b1, hb1⟩ : ∃ b, b = (decide (ud1 = ud2)) := ⟨_, rfl⟩
  rw [← hb1] at hR t1
  clear hb1
  obtain ⟨b2, hb2⟩ : ∃ b, b = (eqL fdEq uf1 uf2) := ⟨_, rfl⟩
  rw [← hb2] at hR hc2
  clear hb2
  replace hc2 := Lib.hid hc2
  simp only [suV, suC]
  obtain ⟨W0, hW0⟩ : ∃ W, W = ((w.alloc (.cells #[.string un1, .bool ud1, .slice uh1.oa uf1.length uh1.cap, .int .i64 up1] 47)).alloc (.cells #[.string un2, .bool ud2, .slice uh2.oa uf2.length uh2.cap, .int .i64 up2] 47)) := ⟨_, rfl⟩
  have HW0 : Below w.heap.size w W0 := by rw [hW0]; exact (((Below.refl _ _).alloc (Nat.le_refl _) _).alloc (by simp) _)
  replace HW0 := Lib.hid HW0
  cases b0 with
  | false =>
    have HR := Lib.hid (show R = false by rw [hR]; rfl)
    clear hR
    go_enter Tryz.func48, Tryz.ntmps48
    go_wp2_with fail
    go_ret
    exact ⟨by rw [HR.out]; first | done | rfl, (by rw [← hW0]; exact HW0.out)⟩
  | true =>
  cases b1 with
  | false =>
    have HR := Lib.hid (show R = false by rw [hR]; rfl)
    clear hR
    go_enter Tryz.func48, Tryz.ntmps48
    go_wp2_with fail
    go_ret
    exact ⟨by rw [HR.out]; first | done | rfl, (by rw [← hW0]; exact HW0.out)⟩
  | true =>
  cases b2 with
  | false =>
    have HR := Lib.hid (show R = false by rw [hR]; rfl)
    clear hR
    go_enter Tryz.func48, Tryz.ntmps48
    go_wp2_with fail
    rw [← hW0]
    clear hW0
    refine (hc2.out _ HW0.out).mono ?_
    rintro e w1 ⟨rfl, hb1⟩
    have B1 := Lib.hid (HW0.out.trans (hb1.mono HW0.out.size))
    have K1 := Lib.hid hb1
    clear hb1
    go_wp2_with fail
    go_ret
    exact ⟨by rw [HR.out]; first | done | rfl, B1.out⟩
  | true =>
  have HR := Lib.hid (show R = true by rw [hR]; rfl)
  clear hR
  go_enter Tryz.func48, Tryz.ntmps48
  go_wp2_with fail
  rw [← hW0]
  clear hW0
  refine (hc2.out _ HW0.out).mono ?_
  rintro e w1 ⟨rfl, hb1⟩
  have B1 := Lib.hid (HW0.out.trans (hb1.mono HW0.out.size))
  have K1 := Lib.hid hb1
  clear hb1
  go_wp2_with fail
  go_ret
  exact ⟨by rw [HR.out]; first | done | rfl, B1.out⟩

set_option maxRecDepth 100000 in
set_option maxHeartbeats 4000000 in
theorem sameEnum_any (n : Nat) (a b : En5) (w : World) (hA : EnH n w a) (hB : EnH n w b) : Calls Tryz.prog 50 #[enV a, enV b] w fun e w' => e = .returned (.bool (enEq a b)) ∧ Below w.heap.size w w' := by
  obtain ⟨en1, eh1, ev1, ep1⟩ := a
  obtain ⟨en2, eh2, ev2, ep2⟩ := b
  obtain ⟨R, hR⟩ : ∃ R, R = enEq ⟨en1, eh1, ev1, ep1⟩ ⟨en2, eh2, ev2, ep2⟩ := ⟨_, rfl⟩
  rw [← hR]
  replace hR : R = (decide (en1 = en2) && eqL fdEq ev1 ev2) := hR.trans (by rfl)
  have t0 := strq_eq en1 en2
  have hc1 : ∀ W, Below w.heap.size w W → Calls Tryz.prog 117 #[.slice eh1.oa ev1.length eh1.cap, .slice eh2.oa ev2.length eh2.cap, .func (.func 118) #[] #[]] W fun e w' => e = .returned (.bool (eqL fdEq ev1 ev2)) ∧ Below W.heap.size W w' := fun W hW => eqVa_any 118 entersq70 fdEq (FdH n) (fun _ _ _ h hb => FdH.below h hb) (sameVariant_any n) eh1 eh2 ev1 ev2 W (Row.below hA hW fun _ _ hx => FdH.below hx hW) (Row.below hB hW fun _ _ hx => FdH.below hx hW)
  obtain ⟨b0, hb0⟩ : ∃ b, b = (decide (en1 = en2)) := ⟨_, rfl⟩
  rw [← hb0] at hR t0
  clear hb0
  obtain ⟨b1, hb1⟩ : ∃ b, b = (eqL fdEq ev1 ev2) := ⟨_, rfl⟩
  rw [← hb1] at hR hc1
  clear hb1
  replace hc1 := Lib.hid hc1
  simp only [enV, enC]
  obtain ⟨W0, hW0⟩ : ∃ W, W = ((w.alloc (.cells #[.string en1, .slice eh1.oa ev1.length eh1.cap, .int .i64 ep1] 62)).alloc (.cells #[.string en2, .slice eh2.oa ev2.length eh2.cap, .int .i64 ep2] 62)) := ⟨_, rfl⟩
  have HW0 : Below w.heap.size w W0 := by rw [hW0]; exact (((Below.refl _ _).alloc (Nat.le_refl _) _).alloc (by simp) _)
  replace HW0 := Lib.hid HW0
  cases b0 with
  | false =>
    have HR := Lib.hid (show R = false by rw [hR]; rfl)
    clear hR
    go_enter Tryz.func50, Tryz.ntmps50
    go_wp2_with fail
    go_ret
    exact ⟨by rw [HR.out]; first | done | rfl, (by rw [← hW0]; exact HW0.out)⟩
  | true =>
  cases b1 with
  | false =>
    have HR := Lib.hid (show R = false by rw [hR]; rfl)
    clear hR
    go_enter Tryz.func50, Tryz.ntmps50
    go_wp2_with fail
    rw [← hW0]
    clear hW0
    refine (hc1.out _ HW0.out).mono ?_
    rintro e w1 ⟨rfl, hb1⟩
    have B1 := Lib.hid (HW0.out.trans (hb1.mono HW0.out.size))
    have K1 := Lib.hid hb1
    clear hb1
    go_wp2_with fail
    go_ret
    exact ⟨by rw [HR.out]; first | done | rfl, B1.out⟩
  | true =>
  have HR := Lib.hid (show R = true by rw [hR]; rfl)
  clear hR
  go_enter Tryz.func50, Tryz.ntmps50
  go_wp2_with fail
  rw [← hW0]
  clear hW0
  refine (hc1.out _ HW0.out).mono ?_
  rintro e w1 ⟨rfl, hb1⟩
  have B1 := Lib.hid (HW0.out.trans (hb1.mono HW0.out.size))
  have K1 := Lib.hid hb1
  clear hb1
  go_wp2_with fail
  go_ret
  exact ⟨by rw [HR.out]; first | done | rfl, B1.out⟩

theorem sameRow_any (n : Nat) (ihS : ∀ (x y : St5) (w : World), StH n w x → StH n w y → Calls Tryz.prog 193 #[stV x, stV y] w fun e w' => e = .returned (.bool (stEq x y)) ∧ Below w.heap.size w w') (ha hb : Hd) (la lb : List St5) (w : World) (hA : Row w ha 21 la stC (StH n w)) (hB : Row w hb 21 lb stC (StH n w)) :
    Calls Tryz.prog 119 #[.slice ha.oa la.length ha.cap, .slice hb.oa lb.length hb.cap] w fun e w' => e = .returned (.bool (eqL stEq la lb)) ∧ Below w.heap.size w w' := by
  have hc := Lib.hid (eqSt_any 193 entersq98 stEq (StH n) (fun _ _ _ h hb => StH.below h hb) ihS ha hb la lb w hA hB)
  go_enter Tryz.func119, Tryz.ntmps119
  go_wp2_with (go_at_call 192; refine hc.out.mono ?_; rintro e w1 ⟨rfl, hb1⟩; replace hb1 := Lib.hid hb1)
  go_ret
  exact ⟨by first | done | rfl, hb1.out⟩

set_option maxRecDepth 100000 in
set_option maxHeartbeats 4000000 in
theorem sameArm_step (n : Nat) (ihS : ∀ (x y : St5) (w : World), StH n w x → StH n w y → Calls Tryz.prog 193 #[stV x, stV y] w fun e w' => e = .returned (.bool (stEq x y)) ∧ Below w.heap.size w w') (a b : Ar5) (w : World) (hA : ArH (n + 1) w a) (hB : ArH (n + 1) w b) : Calls Tryz.prog 261 #[arV a, arV b] w fun e w' => e = .returned (.bool (arEq a b)) ∧ Below w.heap.size w w' := by
  obtain ⟨av1, ab1, ah1, ay1⟩ := a
  obtain ⟨av2, ab2, ah2, ay2⟩ := b
  obtain ⟨R, hR⟩ : ∃ R, R = arEq (.mk av1 ab1 ah1 ay1) (.mk av2 ab2 ah2 ay2) := ⟨_, rfl⟩
  rw [← hR]
  replace hR : R = (decide (av1 = av2) && decide (ab1 = ab2) && eqL stEq ay1 ay2) := hR.trans (by rw [arEq, stsEq_eq])
  have t0 := strq_eq av1 av2
  have t1 := strq_eq ab1 ab2
  have hc2 : ∀ W, Below w.heap.size w W → Calls Tryz.prog 119 #[.slice ah1.oa ay1.length ah1.cap, .slice ah2.oa ay2.length ah2.cap] W fun e w' => e = .returned (.bool (eqL stEq ay1 ay2)) ∧ Below W.heap.size W w' := fun W hW => sameRow_any n ihS ah1 ah2 ay1 ay2 W (Row.below hA hW fun _ _ hx => StH.below hx hW) (Row.below hB hW fun _ _ hx => StH.below hx hW)
  obtain ⟨b0, hb0⟩ : ∃ b, b = (decide (av1 = av2)) := ⟨_, rfl⟩
  rw [← hb0] at hR t0
  clear hb0
  obtain ⟨b1, hb1⟩ : ∃ b, b = (decide (ab1 = ab2)) := ⟨_, rfl⟩
  rw [← hb1] at hR t1
  clear hb1
  obtain ⟨b2, hb2⟩ : ∃ b, b = (eqL stEq ay1 ay2) := ⟨_, rfl⟩
  rw [← hb2] at hR hc2
  clear hb2
  replace hc2 := Lib.hid hc2
  simp only [arV, arC]
  obtain ⟨W0, hW0⟩ : ∃ W, W = ((w.alloc (.cells #[.string av1, .string ab1, .slice ah1.oa ay1.length ah1.cap] 188)).alloc (.cells #[.string av2, .string ab2, .slice ah2.oa ay2.length ah2.cap] 188)) := ⟨_, rfl⟩
  have HW0 : Below w.heap.size w W0 := by rw [hW0]; exact (((Below.refl _ _).alloc (Nat.le_refl _) _).alloc (by simp) _)
  replace HW0 := Lib.hid HW0
  cases b0 with
  | false =>
    have HR := Lib.hid (show R = false by rw [hR]; rfl)
    clear hR
    go_enter Tryz.func261, Tryz.ntmps261
    go_wp2_with fail
    go_ret
    exact ⟨by rw [HR.out]; first | done | rfl, (by rw [← hW0]; exact HW0.out)⟩
  | true =>
  cases b1 with
  | false =>
    have HR := Lib.hid (show R = false by rw [hR]; rfl)
    clear hR
    go_enter Tryz.func261, Tryz.ntmps261
    go_wp2_with fail
    go_ret
    exact ⟨by rw [HR.out]; first | done | rfl, (by rw [← hW0]; exact HW0.out)⟩
  | true =>
  cases b2 with
  | false =>
    have HR := Lib.hid (show R = false by rw [hR]; rfl)
    clear hR
    go_enter Tryz.func261, Tryz.ntmps261
    go_wp2_with fail
    rw [← hW0]
    clear hW0
    refine (hc2.out _ HW0.out).mono ?_
    rintro e w1 ⟨rfl, hb1⟩
    have B1 := Lib.hid (HW0.out.trans (hb1.mono HW0.out.size))
    have K1 := Lib.hid hb1
    clear hb1
    go_wp2_with fail
    go_ret
    exact ⟨by rw [HR.out]; first | done | rfl, B1.out⟩
  | true =>
  have HR := Lib.hid (show R = true by rw [hR]; rfl)
  clear hR
  go_enter Tryz.func261, Tryz.ntmps261
  go_wp2_with fail
  rw [← hW0]
  clear hW0
  refine (hc2.out _ HW0.out).mono ?_
  rintro e w1 ⟨rfl, hb1⟩
  have B1 := Lib.hid (HW0.out.trans (hb1.mono HW0.out.size))
  have K1 := Lib.hid hb1
  clear hb1
  go_wp2_with fail
  go_ret
  exact ⟨by rw [HR.out]; first | done | rfl, B1.out⟩

set_option maxRecDepth 100000 in
set_option maxHeartbeats 4000000 in
theorem sameFn_any (n : Nat) (ihS : ∀ (x y : St5) (w : World), StH n w x → StH n w y → Calls Tryz.prog 193 #[stV x, stV y] w fun e w' => e = .returned (.bool (stEq x y)) ∧ Below w.heap.size w w') (a b : Fn5) (w : World) (hA : FnH n w a) (hB : FnH n w b) : Calls Tryz.prog 52 #[fnV a, fnV b] w fun e w' => e = .returned (.bool (fnEq a b)) ∧ Below w.heap.size w w' := by
  obtain ⟨gn1, gh1, gp1, gi1, gb1, gq1⟩ := a
  obtain ⟨gn2, gh2, gp2, gi2, gb2, gq2⟩ := b
  obtain ⟨R, hR⟩ : ∃ R, R = fnEq ⟨gn1, gh1, gp1, gi1, gb1, gq1⟩ ⟨gn2, gh2, gp2, gi2, gb2, gq2⟩ := ⟨_, rfl⟩
  rw [← hR]
  replace hR : R = (decide (gn1 = gn2) && eqL fdEq gp1 gp2 && eqL stEq gb1 gb2) := hR.trans (by rfl)
  have t0 := strq_eq gn1 gn2
  have hc1 : ∀ W, Below w.heap.size w W → Calls Tryz.prog 115 #[.slice gh1.oa gp1.length gh1.cap, .slice gh2.oa gp2.length gh2.cap, .func (.func 116) #[] #[]] W fun e w' => e = .returned (.bool (eqL fdEq gp1 gp2)) ∧ Below W.heap.size W w' := fun W hW => eqFd_any 116 entersq68 fdEq (FdH n) (fun _ _ _ h hb => FdH.below h hb) (sameField_any n) gh1 gh2 gp1 gp2 W (hA.1.below hW fun _ _ hx => FdH.below hx hW) (hB.1.below hW fun _ _ hx => FdH.below hx hW)
  have hc2 : ∀ W, Below w.heap.size w W → Calls Tryz.prog 119 #[.slice gi1.oa gb1.length gi1.cap, .slice gi2.oa gb2.length gi2.cap] W fun e w' => e = .returned (.bool (eqL stEq gb1 gb2)) ∧ Below W.heap.size W w' := fun W hW => sameRow_any n ihS gi1 gi2 gb1 gb2 W (Row.below hA.2 hW fun _ _ hx => StH.below hx hW) (Row.below hB.2 hW fun _ _ hx => StH.below hx hW)
  obtain ⟨b0, hb0⟩ : ∃ b, b = (decide (gn1 = gn2)) := ⟨_, rfl⟩
  rw [← hb0] at hR t0
  clear hb0
  obtain ⟨b1, hb1⟩ : ∃ b, b = (eqL fdEq gp1 gp2) := ⟨_, rfl⟩
  rw [← hb1] at hR hc1
  clear hb1
  replace hc1 := Lib.hid hc1
  obtain ⟨b2, hb2⟩ : ∃ b, b = (eqL stEq gb1 gb2) := ⟨_, rfl⟩
  rw [← hb2] at hR hc2
  clear hb2
  replace hc2 := Lib.hid hc2
  simp only [fnV, fnC]
  obtain ⟨W0, hW0⟩ : ∃ W, W = ((w.alloc (.cells #[.string gn1, .slice gh1.oa gp1.length gh1.cap, .slice gi1.oa gb1.length gi1.cap, .int .i64 gq1] 68)).alloc (.cells #[.string gn2, .slice gh2.oa gp2.length gh2.cap, .slice gi2.oa gb2.length gi2.cap, .int .i64 gq2] 68)) := ⟨_, rfl⟩
  have HW0 : Below w.heap.size w W0 := by rw [hW0]; exact (((Below.refl _ _).alloc (Nat.le_refl _) _).alloc (by simp) _)
  replace HW0 := Lib.hid HW0
  have r1 : W0.rangeAt w.heap.size 0 [.string gn1, .slice gh1.oa gp1.length gh1.cap, .slice gi1.oa gb1.length gi1.cap, .int .i64 gq1] := by rw [hW0]; exact rangeAt_below (rangeAt_box w [.string gn1, .slice gh1.oa gp1.length gh1.cap, .slice gi1.oa gb1.length gi1.cap, .int .i64 gq1] 68) (alloc_below _ _)
  have r2 : W0.rangeAt (w.heap.size + 1) 0 [.string gn2, .slice gh2.oa gp2.length gh2.cap, .slice gi2.oa gb2.length gi2.cap, .int .i64 gq2] := by
    have := rangeAt_box (w.alloc (.cells #[.string gn1, .slice gh1.oa gp1.length gh1.cap, .slice gi1.oa gb1.length gi1.cap, .int .i64 gq1] 68)) [.string gn2, .slice gh2.oa gp2.length gh2.cap, .slice gi2.oa gb2.length gi2.cap, .int .i64 gq2] 68
    rw [hW0]
    simpa using this
  have hz2 := Lib.hid (show ∀ w', Below W0.heap.size W0 w' → (w'.cell? ⟨w.heap.size, 2, none⟩ = some (.slice gi1.oa gb1.length gi1.cap) ∧ w'.cell? ⟨w.heap.size + 1, 2, none⟩ = some (.slice gi2.oa gb2.length gi2.cap)) from fun w' hb => by
    have q : ∀ (n : Nat), 0 + n = n := Nat.zero_add
    exact ⟨rangeAt_below r1 hb 2 _ rfl, rangeAt_below r2 hb 2 _ rfl⟩)
  clear r1 r2
  cases b0 with
  | false =>
    have HR := Lib.hid (show R = false by rw [hR]; rfl)
    clear hR
    go_enter Tryz.func52, Tryz.ntmps52
    go_wp2_with fail
    go_ret
    exact ⟨by rw [HR.out]; first | done | rfl, (by rw [← hW0]; exact HW0.out)⟩
  | true =>
  cases b1 with
  | false =>
    have HR := Lib.hid (show R = false by rw [hR]; rfl)
    clear hR
    go_enter Tryz.func52, Tryz.ntmps52
    go_wp2_with fail
    rw [← hW0]
    clear hW0
    refine (hc1.out _ HW0.out).mono ?_
    rintro e w1 ⟨rfl, hb1⟩
    have B1 := Lib.hid (HW0.out.trans (hb1.mono HW0.out.size))
    have K1 := Lib.hid hb1
    clear hb1
    go_wp2_with fail
    go_ret
    exact ⟨by rw [HR.out]; first | done | rfl, B1.out⟩
  | true =>
  cases b2 with
  | false =>
    have HR := Lib.hid (show R = false by rw [hR]; rfl)
    clear hR
    go_enter Tryz.func52, Tryz.ntmps52
    go_wp2_with fail
    rw [← hW0]
    clear hW0
    refine (hc1.out _ HW0.out).mono ?_
    rintro e w1 ⟨rfl, hb1⟩
    have B1 := Lib.hid (HW0.out.trans (hb1.mono HW0.out.size))
    have K1 := Lib.hid hb1
    clear hb1
    obtain ⟨z2_0, z2_1⟩ := hz2.out _ K1.out
    go_wp2_with fail
    refine (hc2.out _ B1.out).mono ?_
    rintro e w2 ⟨rfl, hb2⟩
    have B2 := Lib.hid (B1.out.trans (hb2.mono B1.out.size))
    have K2 := Lib.hid (K1.out.trans (hb2.mono K1.out.size))
    clear hb2
    go_wp2_with fail
    go_ret
    exact ⟨by rw [HR.out]; first | done | rfl, B2.out⟩
  | true =>
  have HR := Lib.hid (show R = true by rw [hR]; rfl)
  clear hR
  go_enter Tryz.func52, Tryz.ntmps52
  go_wp2_with fail
  rw [← hW0]
  clear hW0
  refine (hc1.out _ HW0.out).mono ?_
  rintro e w1 ⟨rfl, hb1⟩
  have B1 := Lib.hid (HW0.out.trans (hb1.mono HW0.out.size))
  have K1 := Lib.hid hb1
  clear hb1
  obtain ⟨z2_0, z2_1⟩ := hz2.out _ K1.out
  go_wp2_with fail
  refine (hc2.out _ B1.out).mono ?_
  rintro e w2 ⟨rfl, hb2⟩
  have B2 := Lib.hid (B1.out.trans (hb2.mono B1.out.size))
  have K2 := Lib.hid (K1.out.trans (hb2.mono K1.out.size))
  clear hb2
  go_wp2_with fail
  go_ret
  exact ⟨by rw [HR.out]; first | done | rfl, B2.out⟩

end Go.Proofs.YtggdpgaedmegbaaGreatDoor
