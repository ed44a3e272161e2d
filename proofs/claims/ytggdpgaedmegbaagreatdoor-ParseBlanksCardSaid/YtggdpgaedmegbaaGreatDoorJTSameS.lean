/-
  sameStmt of tree. Conditions: what is compared lies in the heap.
-/
import Derived.Test.YtggdpgaedmegbaaGreatDoorJTSameC
import Derived.Test.YtggdpgaedmegbaaGreatDoorJTEqs
namespace Go.Proofs.YtggdpgaedmegbaaGreatDoor
open Go.RowKit

set_option maxRecDepth 100000 in
set_option maxHeartbeats 16000000 in
theorem sameStmt_step (n : Nat) (ihS : ∀ (x y : St5) (w : World), StH n w x → StH n w y → Calls Tryz.prog 193 #[stV x, stV y] w fun e w' => e = .returned (.bool (stEq x y)) ∧ Below w.heap.size w w') (ihA : ∀ (x y : Ar5) (w : World), ArH n w x → ArH n w y → Calls Tryz.prog 261 #[arV x, arV y] w fun e w' => e = .returned (.bool (arEq x y)) ∧ Below w.heap.size w w') (a b : St5) (w : World) (hA : StH (n + 1) w a) (hB : StH (n + 1) w b) : Calls Tryz.prog 193 #[stV a, stV b] w fun e w' => e = .returned (.bool (stEq a b)) ∧ Below w.heap.size w w' := by
  obtain ⟨sk1, sp1, sn1, ⟨k1, nm1, h1, l1⟩, ⟨pn1, ph1, pp1⟩, ⟨rk1, rh1, ro1, ⟨pnr1, phr1, ppr1⟩, rn1, rr1⟩, ⟨ono1, oio1, ⟨pno1, pho1, ppo1⟩⟩, ht1, th1, he1, el1, ha1, ar1⟩ := a
  obtain ⟨sk2, sp2, sn2, ⟨k2, nm2, h2, l2⟩, ⟨pn2, ph2, pp2⟩, ⟨rk2, rh2, ro2, ⟨pnr2, phr2, ppr2⟩, rn2, rr2⟩, ⟨ono2, oio2, ⟨pno2, pho2, ppo2⟩⟩, ht2, th2, he2, el2, ha2, ar2⟩ := b
  obtain ⟨R, hR⟩ : ∃ R, R = stEq (.mk sk1 sp1 sn1 (.mk k1 nm1 h1 l1) ⟨pn1, ph1, pp1⟩ ⟨rk1, rh1, ro1, ⟨pnr1, phr1, ppr1⟩, rn1, rr1⟩ ⟨ono1, oio1, ⟨pno1, pho1, ppo1⟩⟩ ht1 th1 he1 el1 ha1 ar1) (.mk sk2 sp2 sn2 (.mk k2 nm2 h2 l2) ⟨pn2, ph2, pp2⟩ ⟨rk2, rh2, ro2, ⟨pnr2, phr2, ppr2⟩, rn2, rr2⟩ ⟨ono2, oio2, ⟨pno2, pho2, ppo2⟩⟩ ht2 th2 he2 el2 ha2 ar2) := ⟨_, rfl⟩
  rw [← hR]
  obtain ⟨-, A2, A3, A4, A5, A6, A7, A8⟩ := hA
  obtain ⟨-, B2, B3, B4, B5, B6, B7, B8⟩ := hB
  replace hR : R = (decide (sk1 = sk2) && decide (sn1 = sn2) && tyEq (.mk k1 nm1 h1 l1) (.mk k2 nm2 h2 l2) && plEq ⟨pn1, ph1, pp1⟩ ⟨pn2, ph2, pp2⟩ && rvEq ⟨rk1, rh1, ro1, ⟨pnr1, phr1, ppr1⟩, rn1, rr1⟩ ⟨rk2, rh2, ro2, ⟨pnr2, phr2, ppr2⟩, rn2, rr2⟩ && opEq ⟨ono1, oio1, ⟨pno1, pho1, ppo1⟩⟩ ⟨ono2, oio2, ⟨pno2, pho2, ppo2⟩⟩ && eqL stEq th1 th2 && eqL stEq el1 el2 && eqL arEq ar1 ar2) := hR.trans (by rw [stEq, stsEq_eq, stsEq_eq, arsEq_eq])
  have t0 : (sk1 == sk2) = decide (sk1 = sk2) := by rw [Bool.eq_iff_iff]; simp
  have t1 := strq_eq sn1 sn2
  have hc2 : ∀ W, Below w.heap.size w W → Calls Tryz.prog 191 #[tyV (.mk k1 nm1 h1 l1), tyV (.mk k2 nm2 h2 l2)] W fun e w' => e = .returned (.bool (tyEq (.mk k1 nm1 h1 l1) (.mk k2 nm2 h2 l2))) ∧ Below W.heap.size W w' := fun W hW => sameType_any n _ _ W (TyH.below n A2 hW) (TyH.below n B2 hW)
  have hc3 : ∀ W, Below w.heap.size w W → Calls Tryz.prog 257 #[plV ⟨pn1, ph1, pp1⟩, plV ⟨pn2, ph2, pp2⟩] W fun e w' => e = .returned (.bool (plEq ⟨pn1, ph1, pp1⟩ ⟨pn2, ph2, pp2⟩)) ∧ Below W.heap.size W w' := fun W hW => samePlace_any _ _ W (A3.below hW) (B3.below hW)
  have hc4 : ∀ W, Below w.heap.size w W → Calls Tryz.prog 258 #[rvV ⟨rk1, rh1, ro1, ⟨pnr1, phr1, ppr1⟩, rn1, rr1⟩, rvV ⟨rk2, rh2, ro2, ⟨pnr2, phr2, ppr2⟩, rn2, rr2⟩] W fun e w' => e = .returned (.bool (rvEq ⟨rk1, rh1, ro1, ⟨pnr1, phr1, ppr1⟩, rn1, rr1⟩ ⟨rk2, rh2, ro2, ⟨pnr2, phr2, ppr2⟩, rn2, rr2⟩)) ∧ Below W.heap.size W w' := fun W hW => sameSet_any _ _ W (A4.below hW) (B4.below hW)
  have hc5 : ∀ W, Below w.heap.size w W → Calls Tryz.prog 259 #[opV ⟨ono1, oio1, ⟨pno1, pho1, ppo1⟩⟩, opV ⟨ono2, oio2, ⟨pno2, pho2, ppo2⟩⟩] W fun e w' => e = .returned (.bool (opEq ⟨ono1, oio1, ⟨pno1, pho1, ppo1⟩⟩ ⟨ono2, oio2, ⟨pno2, pho2, ppo2⟩⟩)) ∧ Below W.heap.size W w' := fun W hW => sameOper_any _ _ W (A5.below hW) (B5.below hW)
  have hc6 : ∀ W, Below w.heap.size w W → Calls Tryz.prog 119 #[.slice ht1.oa th1.length ht1.cap, .slice ht2.oa th2.length ht2.cap] W fun e w' => e = .returned (.bool (eqL stEq th1 th2)) ∧ Below W.heap.size W w' := fun W hW => sameRow_any n ihS ht1 ht2 th1 th2 W (Row.below A6 hW fun _ _ hx => StH.below hx hW) (Row.below B6 hW fun _ _ hx => StH.below hx hW)
  have hc7 : ∀ W, Below w.heap.size w W → Calls Tryz.prog 119 #[.slice he1.oa el1.length he1.cap, .slice he2.oa el2.length he2.cap] W fun e w' => e = .returned (.bool (eqL stEq el1 el2)) ∧ Below W.heap.size W w' := fun W hW => sameRow_any n ihS he1 he2 el1 el2 W (Row.below A7 hW fun _ _ hx => StH.below hx hW) (Row.below B7 hW fun _ _ hx => StH.below hx hW)
  have hc8 : ∀ W, Below w.heap.size w W → Calls Tryz.prog 260 #[.slice ha1.oa ar1.length ha1.cap, .slice ha2.oa ar2.length ha2.cap, .func (.func 261) #[] #[]] W fun e w' => e = .returned (.bool (eqL arEq ar1 ar2)) ∧ Below W.heap.size W w' := fun W hW => eqAr_any 261 entersq117 arEq (ArH n) (fun _ _ _ h hb => ArH.below h hb) ihA ha1 ha2 ar1 ar2 W (Row.below A8 hW fun _ _ hx => ArH.below hx hW) (Row.below B8 hW fun _ _ hx => ArH.below hx hW)
  obtain ⟨b0, hb0⟩ : ∃ b, b = (decide (sk1 = sk2)) := ⟨_, rfl⟩
  rw [← hb0] at hR t0
  clear hb0
  obtain ⟨b1, hb1⟩ : ∃ b, b = (decide (sn1 = sn2)) := ⟨_, rfl⟩
  rw [← hb1] at hR t1
  clear hb1
  obtain ⟨b2, hb2⟩ : ∃ b, b = (tyEq (.mk k1 nm1 h1 l1) (.mk k2 nm2 h2 l2)) := ⟨_, rfl⟩
  rw [← hb2] at hR hc2
  clear hb2
  replace hc2 := Lib.hid hc2
  obtain ⟨b3, hb3⟩ : ∃ b, b = (plEq ⟨pn1, ph1, pp1⟩ ⟨pn2, ph2, pp2⟩) := ⟨_, rfl⟩
  rw [← hb3] at hR hc3
  clear hb3
  replace hc3 := Lib.hid hc3
  obtain ⟨b4, hb4⟩ : ∃ b, b = (rvEq ⟨rk1, rh1, ro1, ⟨pnr1, phr1, ppr1⟩, rn1, rr1⟩ ⟨rk2, rh2, ro2, ⟨pnr2, phr2, ppr2⟩, rn2, rr2⟩) := ⟨_, rfl⟩
  rw [← hb4] at hR hc4
  clear hb4
  replace hc4 := Lib.hid hc4
  obtain ⟨b5, hb5⟩ : ∃ b, b = (opEq ⟨ono1, oio1, ⟨pno1, pho1, ppo1⟩⟩ ⟨ono2, oio2, ⟨pno2, pho2, ppo2⟩⟩) := ⟨_, rfl⟩
  rw [← hb5] at hR hc5
  clear hb5
  replace hc5 := Lib.hid hc5
  obtain ⟨b6, hb6⟩ : ∃ b, b = (eqL stEq th1 th2) := ⟨_, rfl⟩
  rw [← hb6] at hR hc6
  clear hb6
  replace hc6 := Lib.hid hc6
  obtain ⟨b7, hb7⟩ : ∃ b, b = (eqL stEq el1 el2) := ⟨_, rfl⟩
  rw [← hb7] at hR hc7
  clear hb7
  replace hc7 := Lib.hid hc7
  obtain ⟨b8, hb8⟩ : ∃ b, b = (eqL arEq ar1 ar2) := ⟨_, rfl⟩
  rw [← hb8] at hR hc8
  clear hb8
  replace hc8 := Lib.hid hc8
  replace hc2 := hc2.out
  simp only [tyV, tyC] at hc2
  replace hc2 := Lib.hid hc2
  replace hc3 := hc3.out
  simp only [plV, plC] at hc3
  replace hc3 := Lib.hid hc3
  replace hc4 := hc4.out
  simp only [rvV, rvC, plC, List.cons_append, List.nil_append] at hc4
  replace hc4 := Lib.hid hc4
  replace hc5 := hc5.out
  simp only [opV, opC, plC, List.cons_append, List.nil_append] at hc5
  replace hc5 := Lib.hid hc5
  simp only [stV]
  obtain ⟨c1, hc1⟩ : ∃ c, c = stC (.mk sk1 sp1 sn1 (.mk k1 nm1 h1 l1) ⟨pn1, ph1, pp1⟩ ⟨rk1, rh1, ro1, ⟨pnr1, phr1, ppr1⟩, rn1, rr1⟩ ⟨ono1, oio1, ⟨pno1, pho1, ppo1⟩⟩ ht1 th1 he1 el1 ha1 ar1) := ⟨_, rfl⟩
  obtain ⟨c2, hc2⟩ : ∃ c, c = stC (.mk sk2 sp2 sn2 (.mk k2 nm2 h2 l2) ⟨pn2, ph2, pp2⟩ ⟨rk2, rh2, ro2, ⟨pnr2, phr2, ppr2⟩, rn2, rr2⟩ ⟨ono2, oio2, ⟨pno2, pho2, ppo2⟩⟩ ht2 th2 he2 el2 ha2 ar2) := ⟨_, rfl⟩
  rw [← hc1, ← hc2]
  have ex0 : c1[0]? = some (.int .i64 sk1) := by rw [hc1]; rfl
  have ex2 : c1[2]? = some (.string sn1) := by rw [hc1]; rfl
  have ex3 : c1[3]? = some (.int .i64 k1) := by rw [hc1]; rfl
  have ex4 : c1[4]? = some (.string nm1) := by rw [hc1]; rfl
  have ex5 : c1[5]? = some (.slice h1.oa l1.length h1.cap) := by rw [hc1]; rfl
  have ex6 : c1[6]? = some (.string pn1) := by rw [hc1]; rfl
  have ex7 : c1[7]? = some (.slice ph1.oa pp1.length ph1.cap) := by rw [hc1]; rfl
  have ex8 : c1[8]? = some (.int .i64 rk1) := by rw [hc1]; rfl
  have ex9 : c1[9]? = some (.slice rh1.oa ro1.length rh1.cap) := by rw [hc1]; rfl
  have ex10 : c1[10]? = some (.string pnr1) := by rw [hc1]; rfl
  have ex11 : c1[11]? = some (.slice phr1.oa ppr1.length phr1.cap) := by rw [hc1]; rfl
  have ex12 : c1[12]? = some (.string rn1) := by rw [hc1]; rfl
  have ex13 : c1[13]? = some (.string rr1) := by rw [hc1]; rfl
  have ex14 : c1[14]? = some (.bool ono1) := by rw [hc1]; rfl
  have ex15 : c1[15]? = some (.int .i64 oio1) := by rw [hc1]; rfl
  have ex16 : c1[16]? = some (.string pno1) := by rw [hc1]; rfl
  have ex17 : c1[17]? = some (.slice pho1.oa ppo1.length pho1.cap) := by rw [hc1]; rfl
  have ex18 : c1[18]? = some (.slice ht1.oa th1.length ht1.cap) := by rw [hc1]; rfl
  have ex19 : c1[19]? = some (.slice he1.oa el1.length he1.cap) := by rw [hc1]; rfl
  have ex20 : c1[20]? = some (.slice ha1.oa ar1.length ha1.cap) := by rw [hc1]; rfl
  have ey0 : c2[0]? = some (.int .i64 sk2) := by rw [hc2]; rfl
  have ey2 : c2[2]? = some (.string sn2) := by rw [hc2]; rfl
  have ey3 : c2[3]? = some (.int .i64 k2) := by rw [hc2]; rfl
  have ey4 : c2[4]? = some (.string nm2) := by rw [hc2]; rfl
  have ey5 : c2[5]? = some (.slice h2.oa l2.length h2.cap) := by rw [hc2]; rfl
  have ey6 : c2[6]? = some (.string pn2) := by rw [hc2]; rfl
  have ey7 : c2[7]? = some (.slice ph2.oa pp2.length ph2.cap) := by rw [hc2]; rfl
  have ey8 : c2[8]? = some (.int .i64 rk2) := by rw [hc2]; rfl
  have ey9 : c2[9]? = some (.slice rh2.oa ro2.length rh2.cap) := by rw [hc2]; rfl
  have ey10 : c2[10]? = some (.string pnr2) := by rw [hc2]; rfl
  have ey11 : c2[11]? = some (.slice phr2.oa ppr2.length phr2.cap) := by rw [hc2]; rfl
  have ey12 : c2[12]? = some (.string rn2) := by rw [hc2]; rfl
  have ey13 : c2[13]? = some (.string rr2) := by rw [hc2]; rfl
  have ey14 : c2[14]? = some (.bool ono2) := by rw [hc2]; rfl
  have ey15 : c2[15]? = some (.int .i64 oio2) := by rw [hc2]; rfl
  have ey16 : c2[16]? = some (.string pno2) := by rw [hc2]; rfl
  have ey17 : c2[17]? = some (.slice pho2.oa ppo2.length pho2.cap) := by rw [hc2]; rfl
  have ey18 : c2[18]? = some (.slice ht2.oa th2.length ht2.cap) := by rw [hc2]; rfl
  have ey19 : c2[19]? = some (.slice he2.oa el2.length he2.cap) := by rw [hc2]; rfl
  have ey20 : c2[20]? = some (.slice ha2.oa ar2.length ha2.cap) := by rw [hc2]; rfl
  clear hc1 hc2
  obtain ⟨W0, hW0⟩ : ∃ W, W = ((w.alloc (.cells c1.toArray 108)).alloc (.cells c2.toArray 108)) := ⟨_, rfl⟩
  have HW0 : Below w.heap.size w W0 := by rw [hW0]; exact (((Below.refl _ _).alloc (Nat.le_refl _) _).alloc (by simp) _)
  replace HW0 := Lib.hid HW0
  have r1 : W0.rangeAt w.heap.size 0 c1 := by rw [hW0]; exact rangeAt_below (rangeAt_box w c1 108) (alloc_below _ _)
  have r2 : W0.rangeAt (w.heap.size + 1) 0 c2 := by
    have := rangeAt_box (w.alloc (.cells c1.toArray 108)) c2 108
    rw [hW0]
    simpa using this
  have hz3 := Lib.hid (show ∀ w', Below W0.heap.size W0 w' → (w'.cell? ⟨w.heap.size, 6, none⟩ = some (.string pn1) ∧ w'.cell? ⟨w.heap.size, 7, none⟩ = some (.slice ph1.oa pp1.length ph1.cap) ∧ w'.cell? ⟨w.heap.size + 1, 6, none⟩ = some (.string pn2) ∧ w'.cell? ⟨w.heap.size + 1, 7, none⟩ = some (.slice ph2.oa pp2.length ph2.cap)) from fun w' hb => by
    have q : ∀ (n : Nat), 0 + n = n := Nat.zero_add
    exact ⟨rangeAt_below r1 hb 6 _ ex6, rangeAt_below r1 hb 7 _ ex7, rangeAt_below r2 hb 6 _ ey6, rangeAt_below r2 hb 7 _ ey7⟩)
  have hz4 := Lib.hid (show ∀ w', Below W0.heap.size W0 w' → (w'.cell? ⟨w.heap.size, 8, none⟩ = some (.int .i64 rk1) ∧ w'.cell? ⟨w.heap.size, 9, none⟩ = some (.slice rh1.oa ro1.length rh1.cap) ∧ w'.cell? ⟨w.heap.size, 10, none⟩ = some (.string pnr1) ∧ w'.cell? ⟨w.heap.size, 11, none⟩ = some (.slice phr1.oa ppr1.length phr1.cap) ∧ w'.cell? ⟨w.heap.size, 12, none⟩ = some (.string rn1) ∧ w'.cell? ⟨w.heap.size, 13, none⟩ = some (.string rr1) ∧ w'.cell? ⟨w.heap.size + 1, 8, none⟩ = some (.int .i64 rk2) ∧ w'.cell? ⟨w.heap.size + 1, 9, none⟩ = some (.slice rh2.oa ro2.length rh2.cap) ∧ w'.cell? ⟨w.heap.size + 1, 10, none⟩ = some (.string pnr2) ∧ w'.cell? ⟨w.heap.size + 1, 11, none⟩ = some (.slice phr2.oa ppr2.length phr2.cap) ∧ w'.cell? ⟨w.heap.size + 1, 12, none⟩ = some (.string rn2) ∧ w'.cell? ⟨w.heap.size + 1, 13, none⟩ = some (.string rr2)) from fun w' hb => by
    have q : ∀ (n : Nat), 0 + n = n := Nat.zero_add
    exact ⟨rangeAt_below r1 hb 8 _ ex8, rangeAt_below r1 hb 9 _ ex9, rangeAt_below r1 hb 10 _ ex10, rangeAt_below r1 hb 11 _ ex11, rangeAt_below r1 hb 12 _ ex12, rangeAt_below r1 hb 13 _ ex13, rangeAt_below r2 hb 8 _ ey8, rangeAt_below r2 hb 9 _ ey9, rangeAt_below r2 hb 10 _ ey10, rangeAt_below r2 hb 11 _ ey11, rangeAt_below r2 hb 12 _ ey12, rangeAt_below r2 hb 13 _ ey13⟩)
  have hz5 := Lib.hid (show ∀ w', Below W0.heap.size W0 w' → (w'.cell? ⟨w.heap.size, 14, none⟩ = some (.bool ono1) ∧ w'.cell? ⟨w.heap.size, 15, none⟩ = some (.int .i64 oio1) ∧ w'.cell? ⟨w.heap.size, 16, none⟩ = some (.string pno1) ∧ w'.cell? ⟨w.heap.size, 17, none⟩ = some (.slice pho1.oa ppo1.length pho1.cap) ∧ w'.cell? ⟨w.heap.size + 1, 14, none⟩ = some (.bool ono2) ∧ w'.cell? ⟨w.heap.size + 1, 15, none⟩ = some (.int .i64 oio2) ∧ w'.cell? ⟨w.heap.size + 1, 16, none⟩ = some (.string pno2) ∧ w'.cell? ⟨w.heap.size + 1, 17, none⟩ = some (.slice pho2.oa ppo2.length pho2.cap)) from fun w' hb => by
    have q : ∀ (n : Nat), 0 + n = n := Nat.zero_add
    exact ⟨rangeAt_below r1 hb 14 _ ex14, rangeAt_below r1 hb 15 _ ex15, rangeAt_below r1 hb 16 _ ex16, rangeAt_below r1 hb 17 _ ex17, rangeAt_below r2 hb 14 _ ey14, rangeAt_below r2 hb 15 _ ey15, rangeAt_below r2 hb 16 _ ey16, rangeAt_below r2 hb 17 _ ey17⟩)
  have hz6 := Lib.hid (show ∀ w', Below W0.heap.size W0 w' → (w'.cell? ⟨w.heap.size, 18, none⟩ = some (.slice ht1.oa th1.length ht1.cap) ∧ w'.cell? ⟨w.heap.size + 1, 18, none⟩ = some (.slice ht2.oa th2.length ht2.cap)) from fun w' hb => by
    have q : ∀ (n : Nat), 0 + n = n := Nat.zero_add
    exact ⟨rangeAt_below r1 hb 18 _ ex18, rangeAt_below r2 hb 18 _ ey18⟩)
  have hz7 := Lib.hid (show ∀ w', Below W0.heap.size W0 w' → (w'.cell? ⟨w.heap.size, 19, none⟩ = some (.slice he1.oa el1.length he1.cap) ∧ w'.cell? ⟨w.heap.size + 1, 19, none⟩ = some (.slice he2.oa el2.length he2.cap)) from fun w' hb => by
    have q : ∀ (n : Nat), 0 + n = n := Nat.zero_add
    exact ⟨rangeAt_below r1 hb 19 _ ex19, rangeAt_below r2 hb 19 _ ey19⟩)
  have hz8 := Lib.hid (show ∀ w', Below W0.heap.size W0 w' → (w'.cell? ⟨w.heap.size, 20, none⟩ = some (.slice ha1.oa ar1.length ha1.cap) ∧ w'.cell? ⟨w.heap.size + 1, 20, none⟩ = some (.slice ha2.oa ar2.length ha2.cap)) from fun w' hb => by
    have q : ∀ (n : Nat), 0 + n = n := Nat.zero_add
    exact ⟨rangeAt_below r1 hb 20 _ ex20, rangeAt_below r2 hb 20 _ ey20⟩)
  clear r1 r2
  clear ex6 ey6 ex7 ey7 ex8 ey8 ex9 ey9 ex10 ey10 ex11 ey11 ex12 ey12 ex13 ey13 ex14 ey14 ex15 ey15 ex16 ey16 ex17 ey17 ex18 ey18 ex19 ey19 ex20 ey20
  cases b0 with
  | false =>
    have HR := Lib.hid (show R = false by rw [hR]; rfl)
    clear hR
    go_enter Tryz.func193, Tryz.ntmps193
    go_wp2_with fail
    go_ret
    exact ⟨by rw [HR.out]; first | done | rfl, (by rw [← hW0]; exact HW0.out)⟩
  | true =>
  cases b1 with
  | false =>
    have HR := Lib.hid (show R = false by rw [hR]; rfl)
    clear hR
    go_enter Tryz.func193, Tryz.ntmps193
    go_wp2_with fail
    go_ret
    exact ⟨by rw [HR.out]; first | done | rfl, (by rw [← hW0]; exact HW0.out)⟩
  | true =>
  cases b2 with
  | false =>
    have HR := Lib.hid (show R = false by rw [hR]; rfl)
    clear hR
    go_enter Tryz.func193, Tryz.ntmps193
    go_wp2_with fail
    rw [← hW0]
    clear hW0
    refine (hc2.out _ HW0.out).mono ?_
    rintro e w1 ⟨rfl, hb1⟩
    have B1 := Lib.hid (HW0.out.trans (hb1.mono HW0.out.size))
    have K1 := Lib.hid hb1
    clear hb1
    go_wp2_with fail
    go_ret
    exact ⟨by rw [HR.out]; first | done | rfl, B1.out⟩
  | true =>
  cases b3 with
  | false =>
    have HR := Lib.hid (show R = false by rw [hR]; rfl)
    clear hR
    go_enter Tryz.func193, Tryz.ntmps193
    go_wp2_with fail
    rw [← hW0]
    clear hW0
    refine (hc2.out _ HW0.out).mono ?_
    rintro e w1 ⟨rfl, hb1⟩
    have B1 := Lib.hid (HW0.out.trans (hb1.mono HW0.out.size))
    have K1 := Lib.hid hb1
    clear hb1
    obtain ⟨z3_0, z3_1, z3_2, z3_3⟩ := hz3.out _ K1.out
    go_wp2_with fail
    refine (hc3.out _ B1.out).mono ?_
    rintro e w2 ⟨rfl, hb2⟩
    have B2 := Lib.hid (B1.out.trans (hb2.mono B1.out.size))
    have K2 := Lib.hid (K1.out.trans (hb2.mono K1.out.size))
    clear hb2
    go_wp2_with fail
    go_ret
    exact ⟨by rw [HR.out]; first | done | rfl, B2.out⟩
  | true =>
  cases b4 with
  | false =>
    have HR := Lib.hid (show R = false by rw [hR]; rfl)
    clear hR
    go_enter Tryz.func193, Tryz.ntmps193
    go_wp2_with fail
    rw [← hW0]
    clear hW0
    refine (hc2.out _ HW0.out).mono ?_
    rintro e w1 ⟨rfl, hb1⟩
    have B1 := Lib.hid (HW0.out.trans (hb1.mono HW0.out.size))
    have K1 := Lib.hid hb1
    clear hb1
    obtain ⟨z3_0, z3_1, z3_2, z3_3⟩ := hz3.out _ K1.out
    go_wp2_with fail
    refine (hc3.out _ B1.out).mono ?_
    rintro e w2 ⟨rfl, hb2⟩
    have B2 := Lib.hid (B1.out.trans (hb2.mono B1.out.size))
    have K2 := Lib.hid (K1.out.trans (hb2.mono K1.out.size))
    clear hb2
    obtain ⟨z4_0, z4_1, z4_2, z4_3, z4_4, z4_5, z4_6, z4_7, z4_8, z4_9, z4_10, z4_11⟩ := hz4.out _ K2.out
    go_wp2_with fail
    refine (hc4.out _ B2.out).mono ?_
    rintro e w3 ⟨rfl, hb3⟩
    have B3 := Lib.hid (B2.out.trans (hb3.mono B2.out.size))
    have K3 := Lib.hid (K2.out.trans (hb3.mono K2.out.size))
    clear hb3
    go_wp2_with fail
    go_ret
    exact ⟨by rw [HR.out]; first | done | rfl, B3.out⟩
  | true =>
  cases b5 with
  | false =>
    have HR := Lib.hid (show R = false by rw [hR]; rfl)
    clear hR
    go_enter Tryz.func193, Tryz.ntmps193
    go_wp2_with fail
    rw [← hW0]
    clear hW0
    refine (hc2.out _ HW0.out).mono ?_
    rintro e w1 ⟨rfl, hb1⟩
    have B1 := Lib.hid (HW0.out.trans (hb1.mono HW0.out.size))
    have K1 := Lib.hid hb1
    clear hb1
    obtain ⟨z3_0, z3_1, z3_2, z3_3⟩ := hz3.out _ K1.out
    go_wp2_with fail
    refine (hc3.out _ B1.out).mono ?_
    rintro e w2 ⟨rfl, hb2⟩
    have B2 := Lib.hid (B1.out.trans (hb2.mono B1.out.size))
    have K2 := Lib.hid (K1.out.trans (hb2.mono K1.out.size))
    clear hb2
    obtain ⟨z4_0, z4_1, z4_2, z4_3, z4_4, z4_5, z4_6, z4_7, z4_8, z4_9, z4_10, z4_11⟩ := hz4.out _ K2.out
    go_wp2_with fail
    refine (hc4.out _ B2.out).mono ?_
    rintro e w3 ⟨rfl, hb3⟩
    have B3 := Lib.hid (B2.out.trans (hb3.mono B2.out.size))
    have K3 := Lib.hid (K2.out.trans (hb3.mono K2.out.size))
    clear hb3
    obtain ⟨z5_0, z5_1, z5_2, z5_3, z5_4, z5_5, z5_6, z5_7⟩ := hz5.out _ K3.out
    go_wp2_with fail
    refine (hc5.out _ B3.out).mono ?_
    rintro e w4 ⟨rfl, hb4⟩
    have B4 := Lib.hid (B3.out.trans (hb4.mono B3.out.size))
    have K4 := Lib.hid (K3.out.trans (hb4.mono K3.out.size))
    clear hb4
    go_wp2_with fail
    go_ret
    exact ⟨by rw [HR.out]; first | done | rfl, B4.out⟩
  | true =>
  cases b6 with
  | false =>
    have HR := Lib.hid (show R = false by rw [hR]; rfl)
    clear hR
    go_enter Tryz.func193, Tryz.ntmps193
    go_wp2_with fail
    rw [← hW0]
    clear hW0
    refine (hc2.out _ HW0.out).mono ?_
    rintro e w1 ⟨rfl, hb1⟩
    have B1 := Lib.hid (HW0.out.trans (hb1.mono HW0.out.size))
    have K1 := Lib.hid hb1
    clear hb1
    obtain ⟨z3_0, z3_1, z3_2, z3_3⟩ := hz3.out _ K1.out
    go_wp2_with fail
    refine (hc3.out _ B1.out).mono ?_
    rintro e w2 ⟨rfl, hb2⟩
    have B2 := Lib.hid (B1.out.trans (hb2.mono B1.out.size))
    have K2 := Lib.hid (K1.out.trans (hb2.mono K1.out.size))
    clear hb2
    obtain ⟨z4_0, z4_1, z4_2, z4_3, z4_4, z4_5, z4_6, z4_7, z4_8, z4_9, z4_10, z4_11⟩ := hz4.out _ K2.out
    go_wp2_with fail
    refine (hc4.out _ B2.out).mono ?_
    rintro e w3 ⟨rfl, hb3⟩
    have B3 := Lib.hid (B2.out.trans (hb3.mono B2.out.size))
    have K3 := Lib.hid (K2.out.trans (hb3.mono K2.out.size))
    clear hb3
    obtain ⟨z5_0, z5_1, z5_2, z5_3, z5_4, z5_5, z5_6, z5_7⟩ := hz5.out _ K3.out
    go_wp2_with fail
    refine (hc5.out _ B3.out).mono ?_
    rintro e w4 ⟨rfl, hb4⟩
    have B4 := Lib.hid (B3.out.trans (hb4.mono B3.out.size))
    have K4 := Lib.hid (K3.out.trans (hb4.mono K3.out.size))
    clear hb4
    obtain ⟨z6_0, z6_1⟩ := hz6.out _ K4.out
    go_wp2_with fail
    refine (hc6.out _ B4.out).mono ?_
    rintro e w5 ⟨rfl, hb5⟩
    have B5 := Lib.hid (B4.out.trans (hb5.mono B4.out.size))
    have K5 := Lib.hid (K4.out.trans (hb5.mono K4.out.size))
    clear hb5
    go_wp2_with fail
    go_ret
    exact ⟨by rw [HR.out]; first | done | rfl, B5.out⟩
  | true =>
  cases b7 with
  | false =>
    have HR := Lib.hid (show R = false by rw [hR]; rfl)
    clear hR
    go_enter Tryz.func193, Tryz.ntmps193
    go_wp2_with fail
    rw [← hW0]
    clear hW0
    refine (hc2.out _ HW0.out).mono ?_
    rintro e w1 ⟨rfl, hb1⟩
    have B1 := Lib.hid (HW0.out.trans (hb1.mono HW0.out.size))
    have K1 := Lib.hid hb1
    clear hb1
    obtain ⟨z3_0, z3_1, z3_2, z3_3⟩ := hz3.out _ K1.out
    go_wp2_with fail
    refine (hc3.out _ B1.out).mono ?_
    rintro e w2 ⟨rfl, hb2⟩
    have B2 := Lib.hid (B1.out.trans (hb2.mono B1.out.size))
    have K2 := Lib.hid (K1.out.trans (hb2.mono K1.out.size))
    clear hb2
    obtain ⟨z4_0, z4_1, z4_2, z4_3, z4_4, z4_5, z4_6, z4_7, z4_8, z4_9, z4_10, z4_11⟩ := hz4.out _ K2.out
    go_wp2_with fail
    refine (hc4.out _ B2.out).mono ?_
    rintro e w3 ⟨rfl, hb3⟩
    have B3 := Lib.hid (B2.out.trans (hb3.mono B2.out.size))
    have K3 := Lib.hid (K2.out.trans (hb3.mono K2.out.size))
    clear hb3
    obtain ⟨z5_0, z5_1, z5_2, z5_3, z5_4, z5_5, z5_6, z5_7⟩ := hz5.out _ K3.out
    go_wp2_with fail
    refine (hc5.out _ B3.out).mono ?_
    rintro e w4 ⟨rfl, hb4⟩
    have B4 := Lib.hid (B3.out.trans (hb4.mono B3.out.size))
    have K4 := Lib.hid (K3.out.trans (hb4.mono K3.out.size))
    clear hb4
    obtain ⟨z6_0, z6_1⟩ := hz6.out _ K4.out
    go_wp2_with fail
    refine (hc6.out _ B4.out).mono ?_
    rintro e w5 ⟨rfl, hb5⟩
    have B5 := Lib.hid (B4.out.trans (hb5.mono B4.out.size))
    have K5 := Lib.hid (K4.out.trans (hb5.mono K4.out.size))
    clear hb5
    obtain ⟨z7_0, z7_1⟩ := hz7.out _ K5.out
    go_wp2_with fail
    refine (hc7.out _ B5.out).mono ?_
    rintro e w6 ⟨rfl, hb6⟩
    have B6 := Lib.hid (B5.out.trans (hb6.mono B5.out.size))
    have K6 := Lib.hid (K5.out.trans (hb6.mono K5.out.size))
    clear hb6
    go_wp2_with fail
    go_ret
    exact ⟨by rw [HR.out]; first | done | rfl, B6.out⟩
  | true =>
  cases b8 with
  | false =>
    have HR := Lib.hid (show R = false by rw [hR]; rfl)
    clear hR
    go_enter Tryz.func193, Tryz.ntmps193
    go_wp2_with fail
    rw [← hW0]
    clear hW0
    refine (hc2.out _ HW0.out).mono ?_
    rintro e w1 ⟨rfl, hb1⟩
    have B1 := Lib.hid (HW0.out.trans (hb1.mono HW0.out.size))
    have K1 := Lib.hid hb1
    clear hb1
    obtain ⟨z3_0, z3_1, z3_2, z3_3⟩ := hz3.out _ K1.out
    go_wp2_with fail
    refine (hc3.out _ B1.out).mono ?_
    rintro e w2 ⟨rfl, hb2⟩
    have B2 := Lib.hid (B1.out.trans (hb2.mono B1.out.size))
    have K2 := Lib.hid (K1.out.trans (hb2.mono K1.out.size))
    clear hb2
    obtain ⟨z4_0, z4_1, z4_2, z4_3, z4_4, z4_5, z4_6, z4_7, z4_8, z4_9, z4_10, z4_11⟩ := hz4.out _ K2.out
    go_wp2_with fail
    refine (hc4.out _ B2.out).mono ?_
    rintro e w3 ⟨rfl, hb3⟩
    have B3 := Lib.hid (B2.out.trans (hb3.mono B2.out.size))
    have K3 := Lib.hid (K2.out.trans (hb3.mono K2.out.size))
    clear hb3
    obtain ⟨z5_0, z5_1, z5_2, z5_3, z5_4, z5_5, z5_6, z5_7⟩ := hz5.out _ K3.out
    go_wp2_with fail
    refine (hc5.out _ B3.out).mono ?_
    rintro e w4 ⟨rfl, hb4⟩
    have B4 := Lib.hid (B3.out.trans (hb4.mono B3.out.size))
    have K4 := Lib.hid (K3.out.trans (hb4.mono K3.out.size))
    clear hb4
    obtain ⟨z6_0, z6_1⟩ := hz6.out _ K4.out
    go_wp2_with fail
    refine (hc6.out _ B4.out).mono ?_
    rintro e w5 ⟨rfl, hb5⟩
    have B5 := Lib.hid (B4.out.trans (hb5.mono B4.out.size))
    have K5 := Lib.hid (K4.out.trans (hb5.mono K4.out.size))
    clear hb5
    obtain ⟨z7_0, z7_1⟩ := hz7.out _ K5.out
    go_wp2_with fail
    refine (hc7.out _ B5.out).mono ?_
    rintro e w6 ⟨rfl, hb6⟩
    have B6 := Lib.hid (B5.out.trans (hb6.mono B5.out.size))
    have K6 := Lib.hid (K5.out.trans (hb6.mono K5.out.size))
    clear hb6
    obtain ⟨z8_0, z8_1⟩ := hz8.out _ K6.out
    go_wp2_with fail
    refine (hc8.out _ B6.out).mono ?_
    rintro e w7 ⟨rfl, hb7⟩
    have B7 := Lib.hid (B6.out.trans (hb7.mono B6.out.size))
    have K7 := Lib.hid (K6.out.trans (hb7.mono K6.out.size))
    clear hb7
    go_wp2_with fail
    go_ret
    exact ⟨by rw [HR.out]; first | done | rfl, B7.out⟩
  | true =>
  have HR := Lib.hid (show R = true by rw [hR]; rfl)
  clear hR
  go_enter Tryz.func193, Tryz.ntmps193
  go_wp2_with fail
  rw [← hW0]
  clear hW0
  refine (hc2.out _ HW0.out).mono ?_
  rintro e w1 ⟨rfl, hb1⟩
  have B1 := Lib.hid (HW0.out.trans (hb1.mono HW0.out.size))
  have K1 := Lib.hid hb1
  clear hb1
  obtain ⟨z3_0, z3_1, z3_2, z3_3⟩ := hz3.out _ K1.out
  go_wp2_with fail
  refine (hc3.out _ B1.out).mono ?_
  rintro e w2 ⟨rfl, hb2⟩
  have B2 := Lib.hid (B1.out.trans (hb2.mono B1.out.size))
  have K2 := Lib.hid (K1.out.trans (hb2.mono K1.out.size))
  clear hb2
  obtain ⟨z4_0, z4_1, z4_2, z4_3, z4_4, z4_5, z4_6, z4_7, z4_8, z4_9, z4_10, z4_11⟩ := hz4.out _ K2.out
  go_wp2_with fail
  refine (hc4.out _ B2.out).mono ?_
  rintro e w3 ⟨rfl, hb3⟩
  have B3 := Lib.hid (B2.out.trans (hb3.mono B2.out.size))
  have K3 := Lib.hid (K2.out.trans (hb3.mono K2.out.size))
  clear hb3
  obtain ⟨z5_0, z5_1, z5_2, z5_3, z5_4, z5_5, z5_6, z5_7⟩ := hz5.out _ K3.out
  go_wp2_with fail
  refine (hc5.out _ B3.out).mono ?_
  rintro e w4 ⟨rfl, hb4⟩
  have B4 := Lib.hid (B3.out.trans (hb4.mono B3.out.size))
  have K4 := Lib.hid (K3.out.trans (hb4.mono K3.out.size))
  clear hb4
  obtain ⟨z6_0, z6_1⟩ := hz6.out _ K4.out
  go_wp2_with fail
  refine (hc6.out _ B4.out).mono ?_
  rintro e w5 ⟨rfl, hb5⟩
  have B5 := Lib.hid (B4.out.trans (hb5.mono B4.out.size))
  have K5 := Lib.hid (K4.out.trans (hb5.mono K4.out.size))
  clear hb5
  obtain ⟨z7_0, z7_1⟩ := hz7.out _ K5.out
  go_wp2_with fail
  refine (hc7.out _ B5.out).mono ?_
  rintro e w6 ⟨rfl, hb6⟩
  have B6 := Lib.hid (B5.out.trans (hb6.mono B5.out.size))
  have K6 := Lib.hid (K5.out.trans (hb6.mono K5.out.size))
  clear hb6
  obtain ⟨z8_0, z8_1⟩ := hz8.out _ K6.out
  go_wp2_with fail
  refine (hc8.out _ B6.out).mono ?_
  rintro e w7 ⟨rfl, hb7⟩
  have B7 := Lib.hid (B6.out.trans (hb7.mono B6.out.size))
  have K7 := Lib.hid (K6.out.trans (hb7.mono K6.out.size))
  clear hb7
  go_wp2_with fail
  go_ret
  exact ⟨by rw [HR.out]; first | done | rfl, B7.out⟩

end Go.Proofs.YtggdpgaedmegbaaGreatDoor
