/-
  sameStmt of the reference's text. Conditions: what is compared lies in the heap.
-/
import Derived.Test.YtgogdcpgfmndnaaGreatDoorTRefE
import Derived.Test.YtgogdcpgfmndnaaGreatDoorTRefF
namespace Go.Proofs.YtgogdcpgfmndnaaGreatDoor
open Go.RowKit

set_option maxRecDepth 100000 in
set_option maxHeartbeats 32000000 in
theorem rSameStmt_step (n : Nat) (ihB : ∀ (ha hb : Hd) (la lb : List St5) (w : World), Row w ha 21 la stC (StH n w) → Row w hb 21 lb stC (StH n w) → Calls Tryz.prog 27 #[.slice ha.oa la.length ha.cap, .slice hb.oa lb.length hb.cap] w fun e w' => e = .returned (.bool (eqL stEq la lb)) ∧ Below w.heap.size w w') (a b : St5) (w : World) (hA : StH (n + 1) w a) (hB : StH (n + 1) w b) :
    Calls Tryz.prog 62 #[stV a, stV b] w fun e w' => e = .returned (.bool (stEq a b)) ∧ Below w.heap.size w w' := by
  obtain ⟨sk1, sp1, sn1, ⟨k1, nm1, h1, l1⟩, ⟨pn1, ph1, pp1⟩, ⟨rk1, rh1, ro1, ⟨pnr1, phr1, ppr1⟩, rn1, rr1⟩, ⟨ono1, oio1, ⟨pno1, pho1, ppo1⟩⟩, ht1, th1, he1, el1, ⟨oa1, capa1⟩, la1⟩ := a
  obtain ⟨sk2, sp2, sn2, ⟨k2, nm2, h2, l2⟩, ⟨pn2, ph2, pp2⟩, ⟨rk2, rh2, ro2, ⟨pnr2, phr2, ppr2⟩, rn2, rr2⟩, ⟨ono2, oio2, ⟨pno2, pho2, ppo2⟩⟩, ht2, th2, he2, el2, ⟨oa2, capa2⟩, la2⟩ := b
  obtain ⟨R, hR⟩ : ∃ R, R = stEq (.mk sk1 sp1 sn1 (.mk k1 nm1 h1 l1) ⟨pn1, ph1, pp1⟩ ⟨rk1, rh1, ro1, ⟨pnr1, phr1, ppr1⟩, rn1, rr1⟩ ⟨ono1, oio1, ⟨pno1, pho1, ppo1⟩⟩ ht1 th1 he1 el1 ⟨oa1, capa1⟩ la1) (.mk sk2 sp2 sn2 (.mk k2 nm2 h2 l2) ⟨pn2, ph2, pp2⟩ ⟨rk2, rh2, ro2, ⟨pnr2, phr2, ppr2⟩, rn2, rr2⟩ ⟨ono2, oio2, ⟨pno2, pho2, ppo2⟩⟩ ht2 th2 he2 el2 ⟨oa2, capa2⟩ la2) := ⟨_, rfl⟩
  rw [← hR]
  obtain ⟨-, A2, A3, A4, A5, A6, A7, ⟨ha1, ha2, ha3, ha4⟩⟩ := hA
  obtain ⟨-, B2, B3, B4, B5, B6, B7, ⟨hb1, hb2, hb3, hb4⟩⟩ := hB
  dsimp only at ha1 ha2 ha3 hb1 hb2 hb3
  unfold maxLen at ha2 hb2
  replace ha3 := Lib.hid ha3
  replace hb3 := Lib.hid hb3
  replace ha4 := Lib.hid ha4
  replace hb4 := Lib.hid hb4
  replace hR : R = (decide (sk1 = sk2) && decide (sn1 = sn2) && tyEq (.mk k1 nm1 h1 l1) (.mk k2 nm2 h2 l2) && plEq ⟨pn1, ph1, pp1⟩ ⟨pn2, ph2, pp2⟩ && rvEq ⟨rk1, rh1, ro1, ⟨pnr1, phr1, ppr1⟩, rn1, rr1⟩ ⟨rk2, rh2, ro2, ⟨pnr2, phr2, ppr2⟩, rn2, rr2⟩ && opEq ⟨ono1, oio1, ⟨pno1, pho1, ppo1⟩⟩ ⟨ono2, oio2, ⟨pno2, pho2, ppo2⟩⟩ && eqL stEq th1 th2 && eqL stEq el1 el2 && eqL arEq la1 la2) := hR.trans (by rw [stEq, stsEq_eq, stsEq_eq, arsEq_eq])
  have t0 : (sk1 != sk2) = !decide (sk1 = sk2) := by rw [Bool.eq_iff_iff]; simp
  have t1 := str_eq sn1 sn2
  have hc2 : ∀ W, Below w.heap.size w W → Calls Tryz.prog 26 #[tyV (.mk k1 nm1 h1 l1), tyV (.mk k2 nm2 h2 l2)] W fun e w' => e = .returned (.bool (tyEq (.mk k1 nm1 h1 l1) (.mk k2 nm2 h2 l2))) ∧ Below W.heap.size W w' := fun W hW => rSameTy_any n _ _ W (TyH.below n A2 hW) (TyH.below n B2 hW)
  have hc3 : ∀ W, Below w.heap.size w W → Calls Tryz.prog 86 #[plV ⟨pn1, ph1, pp1⟩, plV ⟨pn2, ph2, pp2⟩] W fun e w' => e = .returned (.bool (plEq ⟨pn1, ph1, pp1⟩ ⟨pn2, ph2, pp2⟩)) ∧ Below W.heap.size W w' := fun W hW => rSamePlace_any _ _ W (A3.below hW) (B3.below hW)
  have hc4 : ∀ W, Below w.heap.size w W → Calls Tryz.prog 87 #[rvV ⟨rk1, rh1, ro1, ⟨pnr1, phr1, ppr1⟩, rn1, rr1⟩, rvV ⟨rk2, rh2, ro2, ⟨pnr2, phr2, ppr2⟩, rn2, rr2⟩] W fun e w' => e = .returned (.bool (rvEq ⟨rk1, rh1, ro1, ⟨pnr1, phr1, ppr1⟩, rn1, rr1⟩ ⟨rk2, rh2, ro2, ⟨pnr2, phr2, ppr2⟩, rn2, rr2⟩)) ∧ Below W.heap.size W w' := fun W hW => rSameRv_any _ _ W (A4.below hW) (B4.below hW)
  have hc5 : ∀ W, Below w.heap.size w W → Calls Tryz.prog 88 #[opV ⟨ono1, oio1, ⟨pno1, pho1, ppo1⟩⟩, opV ⟨ono2, oio2, ⟨pno2, pho2, ppo2⟩⟩] W fun e w' => e = .returned (.bool (opEq ⟨ono1, oio1, ⟨pno1, pho1, ppo1⟩⟩ ⟨ono2, oio2, ⟨pno2, pho2, ppo2⟩⟩)) ∧ Below W.heap.size W w' := fun W hW => rSameOper_any _ _ W (A5.below hW) (B5.below hW)
  have hc6 : ∀ W, Below w.heap.size w W → Calls Tryz.prog 27 #[.slice ht1.oa th1.length ht1.cap, .slice ht2.oa th2.length ht2.cap] W fun e w' => e = .returned (.bool (eqL stEq th1 th2)) ∧ Below W.heap.size W w' := fun W hW => ihB ht1 ht2 th1 th2 W (Row.below A6 hW fun _ _ hx => StH.below hx hW) (Row.below B6 hW fun _ _ hx => StH.below hx hW)
  have hc7 : ∀ W, Below w.heap.size w W → Calls Tryz.prog 27 #[.slice he1.oa el1.length he1.cap, .slice he2.oa el2.length he2.cap] W fun e w' => e = .returned (.bool (eqL stEq el1 el2)) ∧ Below W.heap.size W w' := fun W hW => ihB he1 he2 el1 el2 W (Row.below A7 hW fun _ _ hx => StH.below hx hW) (Row.below B7 hW fun _ _ hx => StH.below hx hW)
  replace ihB := Lib.hid ihB
  clear A2 A3 A4 A5 A6 A7 B2 B3 B4 B5 B6 B7
  obtain ⟨b0, hb0⟩ : ∃ b, b = (decide (sk1 = sk2)) := ⟨_, rfl⟩
  rw [← hb0] at hR t0
  clear hb0
  obtain ⟨b1, hb1'⟩ : ∃ b, b = (decide (sn1 = sn2)) := ⟨_, rfl⟩
  rw [← hb1'] at hR t1
  clear hb1'
  obtain ⟨b2, hq2⟩ : ∃ b, b = (tyEq (.mk k1 nm1 h1 l1) (.mk k2 nm2 h2 l2)) := ⟨_, rfl⟩
  rw [← hq2] at hR hc2
  clear hq2
  simp only [tyV, tyC] at hc2
  replace hc2 := Lib.hid hc2
  obtain ⟨b3, hq3⟩ : ∃ b, b = (plEq ⟨pn1, ph1, pp1⟩ ⟨pn2, ph2, pp2⟩) := ⟨_, rfl⟩
  rw [← hq3] at hR hc3
  clear hq3
  simp only [plV, plC] at hc3
  replace hc3 := Lib.hid hc3
  obtain ⟨b4, hq4⟩ : ∃ b, b = (rvEq ⟨rk1, rh1, ro1, ⟨pnr1, phr1, ppr1⟩, rn1, rr1⟩ ⟨rk2, rh2, ro2, ⟨pnr2, phr2, ppr2⟩, rn2, rr2⟩) := ⟨_, rfl⟩
  rw [← hq4] at hR hc4
  clear hq4
  simp only [rvV, rvC, plC, List.cons_append, List.nil_append] at hc4
  replace hc4 := Lib.hid hc4
  obtain ⟨b5, hq5⟩ : ∃ b, b = (opEq ⟨ono1, oio1, ⟨pno1, pho1, ppo1⟩⟩ ⟨ono2, oio2, ⟨pno2, pho2, ppo2⟩⟩) := ⟨_, rfl⟩
  rw [← hq5] at hR hc5
  clear hq5
  simp only [opV, opC, plC, List.cons_append, List.nil_append] at hc5
  replace hc5 := Lib.hid hc5
  obtain ⟨b6, hq6⟩ : ∃ b, b = (eqL stEq th1 th2) := ⟨_, rfl⟩
  rw [← hq6] at hR hc6
  clear hq6
  replace hc6 := Lib.hid hc6
  obtain ⟨b7, hq7⟩ : ∃ b, b = (eqL stEq el1 el2) := ⟨_, rfl⟩
  rw [← hq7] at hR hc7
  clear hq7
  replace hc7 := Lib.hid hc7
  simp only [stV]
  obtain ⟨c1, hd1⟩ : ∃ c, c = stC (.mk sk1 sp1 sn1 (.mk k1 nm1 h1 l1) ⟨pn1, ph1, pp1⟩ ⟨rk1, rh1, ro1, ⟨pnr1, phr1, ppr1⟩, rn1, rr1⟩ ⟨ono1, oio1, ⟨pno1, pho1, ppo1⟩⟩ ht1 th1 he1 el1 ⟨oa1, capa1⟩ la1) := ⟨_, rfl⟩
  obtain ⟨c2, hd2⟩ : ∃ c, c = stC (.mk sk2 sp2 sn2 (.mk k2 nm2 h2 l2) ⟨pn2, ph2, pp2⟩ ⟨rk2, rh2, ro2, ⟨pnr2, phr2, ppr2⟩, rn2, rr2⟩ ⟨ono2, oio2, ⟨pno2, pho2, ppo2⟩⟩ ht2 th2 he2 el2 ⟨oa2, capa2⟩ la2) := ⟨_, rfl⟩
  rw [← hd1, ← hd2]
  have ex0 : c1[0]? = some (.int .i64 sk1) := by rw [hd1]; rfl
  have ex2 : c1[2]? = some (.string sn1) := by rw [hd1]; rfl
  have ex3 : c1[3]? = some (.int .i64 k1) := by rw [hd1]; rfl
  have ex4 : c1[4]? = some (.string nm1) := by rw [hd1]; rfl
  have ex5 : c1[5]? = some (.slice h1.oa l1.length h1.cap) := by rw [hd1]; rfl
  have ex6 : c1[6]? = some (.string pn1) := by rw [hd1]; rfl
  have ex7 : c1[7]? = some (.slice ph1.oa pp1.length ph1.cap) := by rw [hd1]; rfl
  have ex8 : c1[8]? = some (.int .i64 rk1) := by rw [hd1]; rfl
  have ex9 : c1[9]? = some (.slice rh1.oa ro1.length rh1.cap) := by rw [hd1]; rfl
  have ex10 : c1[10]? = some (.string pnr1) := by rw [hd1]; rfl
  have ex11 : c1[11]? = some (.slice phr1.oa ppr1.length phr1.cap) := by rw [hd1]; rfl
  have ex12 : c1[12]? = some (.string rn1) := by rw [hd1]; rfl
  have ex13 : c1[13]? = some (.string rr1) := by rw [hd1]; rfl
  have ex14 : c1[14]? = some (.bool ono1) := by rw [hd1]; rfl
  have ex15 : c1[15]? = some (.int .i64 oio1) := by rw [hd1]; rfl
  have ex16 : c1[16]? = some (.string pno1) := by rw [hd1]; rfl
  have ex17 : c1[17]? = some (.slice pho1.oa ppo1.length pho1.cap) := by rw [hd1]; rfl
  have ex18 : c1[18]? = some (.slice ht1.oa th1.length ht1.cap) := by rw [hd1]; rfl
  have ex19 : c1[19]? = some (.slice he1.oa el1.length he1.cap) := by rw [hd1]; rfl
  have ex20 : c1[20]? = some (.slice oa1 la1.length capa1) := by rw [hd1]; rfl
  have ey0 : c2[0]? = some (.int .i64 sk2) := by rw [hd2]; rfl
  have ey2 : c2[2]? = some (.string sn2) := by rw [hd2]; rfl
  have ey3 : c2[3]? = some (.int .i64 k2) := by rw [hd2]; rfl
  have ey4 : c2[4]? = some (.string nm2) := by rw [hd2]; rfl
  have ey5 : c2[5]? = some (.slice h2.oa l2.length h2.cap) := by rw [hd2]; rfl
  have ey6 : c2[6]? = some (.string pn2) := by rw [hd2]; rfl
  have ey7 : c2[7]? = some (.slice ph2.oa pp2.length ph2.cap) := by rw [hd2]; rfl
  have ey8 : c2[8]? = some (.int .i64 rk2) := by rw [hd2]; rfl
  have ey9 : c2[9]? = some (.slice rh2.oa ro2.length rh2.cap) := by rw [hd2]; rfl
  have ey10 : c2[10]? = some (.string pnr2) := by rw [hd2]; rfl
  have ey11 : c2[11]? = some (.slice phr2.oa ppr2.length phr2.cap) := by rw [hd2]; rfl
  have ey12 : c2[12]? = some (.string rn2) := by rw [hd2]; rfl
  have ey13 : c2[13]? = some (.string rr2) := by rw [hd2]; rfl
  have ey14 : c2[14]? = some (.bool ono2) := by rw [hd2]; rfl
  have ey15 : c2[15]? = some (.int .i64 oio2) := by rw [hd2]; rfl
  have ey16 : c2[16]? = some (.string pno2) := by rw [hd2]; rfl
  have ey17 : c2[17]? = some (.slice pho2.oa ppo2.length pho2.cap) := by rw [hd2]; rfl
  have ey18 : c2[18]? = some (.slice ht2.oa th2.length ht2.cap) := by rw [hd2]; rfl
  have ey19 : c2[19]? = some (.slice he2.oa el2.length he2.cap) := by rw [hd2]; rfl
  have ey20 : c2[20]? = some (.slice oa2 la2.length capa2) := by rw [hd2]; rfl
  clear hd1 hd2
  obtain ⟨W0, hW0⟩ : ∃ W, W = ((w.alloc (.cells c1.toArray 52)).alloc (.cells c2.toArray 52)) := ⟨_, rfl⟩
  have HW0 : Below w.heap.size w W0 := by rw [hW0]; exact (((Below.refl _ _).alloc (Nat.le_refl _) _).alloc (by simp) _)
  replace HW0 := Lib.hid HW0
  have r1 : W0.rangeAt w.heap.size 0 c1 := by rw [hW0]; exact rangeAt_below (rangeAt_box w c1 52) (alloc_below _ _)
  have r2 : W0.rangeAt (w.heap.size + 1) 0 c2 := by
    have := rangeAt_box (w.alloc (.cells c1.toArray 52)) c2 52
    rw [hW0]
    simpa using this
  have hz1 := Lib.hid (show ∀ w', Below W0.heap.size W0 w' → (w'.cell? ⟨w.heap.size, 3, none⟩ = some (.int .i64 k1) ∧ w'.cell? ⟨w.heap.size, 4, none⟩ = some (.string nm1) ∧ w'.cell? ⟨w.heap.size, 5, none⟩ = some (.slice h1.oa l1.length h1.cap) ∧ w'.cell? ⟨w.heap.size, 6, none⟩ = some (.string pn1) ∧ w'.cell? ⟨w.heap.size, 7, none⟩ = some (.slice ph1.oa pp1.length ph1.cap) ∧ w'.cell? ⟨w.heap.size + 1, 3, none⟩ = some (.int .i64 k2) ∧ w'.cell? ⟨w.heap.size + 1, 4, none⟩ = some (.string nm2) ∧ w'.cell? ⟨w.heap.size + 1, 5, none⟩ = some (.slice h2.oa l2.length h2.cap) ∧ w'.cell? ⟨w.heap.size + 1, 6, none⟩ = some (.string pn2) ∧ w'.cell? ⟨w.heap.size + 1, 7, none⟩ = some (.slice ph2.oa pp2.length ph2.cap)) from fun w' hb => by
    have q : ∀ (n : Nat), 0 + n = n := Nat.zero_add
    exact ⟨rangeAt_below r1 hb 3 _ ex3, rangeAt_below r1 hb 4 _ ex4, rangeAt_below r1 hb 5 _ ex5, rangeAt_below r1 hb 6 _ ex6, rangeAt_below r1 hb 7 _ ex7, rangeAt_below r2 hb 3 _ ey3, rangeAt_below r2 hb 4 _ ey4, rangeAt_below r2 hb 5 _ ey5, rangeAt_below r2 hb 6 _ ey6, rangeAt_below r2 hb 7 _ ey7⟩)
  have hz2 := Lib.hid (show ∀ w', Below W0.heap.size W0 w' → (w'.cell? ⟨w.heap.size, 8, none⟩ = some (.int .i64 rk1) ∧ w'.cell? ⟨w.heap.size, 9, none⟩ = some (.slice rh1.oa ro1.length rh1.cap) ∧ w'.cell? ⟨w.heap.size, 10, none⟩ = some (.string pnr1) ∧ w'.cell? ⟨w.heap.size, 11, none⟩ = some (.slice phr1.oa ppr1.length phr1.cap) ∧ w'.cell? ⟨w.heap.size, 12, none⟩ = some (.string rn1) ∧ w'.cell? ⟨w.heap.size, 13, none⟩ = some (.string rr1) ∧ w'.cell? ⟨w.heap.size, 14, none⟩ = some (.bool ono1) ∧ w'.cell? ⟨w.heap.size, 15, none⟩ = some (.int .i64 oio1) ∧ w'.cell? ⟨w.heap.size, 16, none⟩ = some (.string pno1) ∧ w'.cell? ⟨w.heap.size, 17, none⟩ = some (.slice pho1.oa ppo1.length pho1.cap) ∧ w'.cell? ⟨w.heap.size + 1, 8, none⟩ = some (.int .i64 rk2) ∧ w'.cell? ⟨w.heap.size + 1, 9, none⟩ = some (.slice rh2.oa ro2.length rh2.cap) ∧ w'.cell? ⟨w.heap.size + 1, 10, none⟩ = some (.string pnr2) ∧ w'.cell? ⟨w.heap.size + 1, 11, none⟩ = some (.slice phr2.oa ppr2.length phr2.cap) ∧ w'.cell? ⟨w.heap.size + 1, 12, none⟩ = some (.string rn2) ∧ w'.cell? ⟨w.heap.size + 1, 13, none⟩ = some (.string rr2) ∧ w'.cell? ⟨w.heap.size + 1, 14, none⟩ = some (.bool ono2) ∧ w'.cell? ⟨w.heap.size + 1, 15, none⟩ = some (.int .i64 oio2) ∧ w'.cell? ⟨w.heap.size + 1, 16, none⟩ = some (.string pno2) ∧ w'.cell? ⟨w.heap.size + 1, 17, none⟩ = some (.slice pho2.oa ppo2.length pho2.cap)) from fun w' hb => by
    have q : ∀ (n : Nat), 0 + n = n := Nat.zero_add
    exact ⟨rangeAt_below r1 hb 8 _ ex8, rangeAt_below r1 hb 9 _ ex9, rangeAt_below r1 hb 10 _ ex10, rangeAt_below r1 hb 11 _ ex11, rangeAt_below r1 hb 12 _ ex12, rangeAt_below r1 hb 13 _ ex13, rangeAt_below r1 hb 14 _ ex14, rangeAt_below r1 hb 15 _ ex15, rangeAt_below r1 hb 16 _ ex16, rangeAt_below r1 hb 17 _ ex17, rangeAt_below r2 hb 8 _ ey8, rangeAt_below r2 hb 9 _ ey9, rangeAt_below r2 hb 10 _ ey10, rangeAt_below r2 hb 11 _ ey11, rangeAt_below r2 hb 12 _ ey12, rangeAt_below r2 hb 13 _ ey13, rangeAt_below r2 hb 14 _ ey14, rangeAt_below r2 hb 15 _ ey15, rangeAt_below r2 hb 16 _ ey16, rangeAt_below r2 hb 17 _ ey17⟩)
  have hz3 := Lib.hid (show ∀ w', Below W0.heap.size W0 w' → (w'.cell? ⟨w.heap.size, 18, none⟩ = some (.slice ht1.oa th1.length ht1.cap) ∧ w'.cell? ⟨w.heap.size, 19, none⟩ = some (.slice he1.oa el1.length he1.cap) ∧ w'.cell? ⟨w.heap.size + 1, 18, none⟩ = some (.slice ht2.oa th2.length ht2.cap) ∧ w'.cell? ⟨w.heap.size + 1, 19, none⟩ = some (.slice he2.oa el2.length he2.cap)) from fun w' hb => by
    have q : ∀ (n : Nat), 0 + n = n := Nat.zero_add
    exact ⟨rangeAt_below r1 hb 18 _ ex18, rangeAt_below r1 hb 19 _ ex19, rangeAt_below r2 hb 18 _ ey18, rangeAt_below r2 hb 19 _ ey19⟩)
  have hz4 := Lib.hid (show ∀ w', Below W0.heap.size W0 w' → (w'.cell? ⟨w.heap.size, 0, none⟩ = some (.int .i64 sk1) ∧ w'.cell? ⟨w.heap.size, 2, none⟩ = some (.string sn1) ∧ w'.cell? ⟨w.heap.size, 20, none⟩ = some (.slice oa1 la1.length capa1) ∧ w'.cell? ⟨w.heap.size + 1, 0, none⟩ = some (.int .i64 sk2) ∧ w'.cell? ⟨w.heap.size + 1, 2, none⟩ = some (.string sn2) ∧ w'.cell? ⟨w.heap.size + 1, 20, none⟩ = some (.slice oa2 la2.length capa2)) from fun w' hb => by
    have q : ∀ (n : Nat), 0 + n = n := Nat.zero_add
    exact ⟨rangeAt_below r1 hb 0 _ ex0, rangeAt_below r1 hb 2 _ ex2, rangeAt_below r1 hb 20 _ ex20, rangeAt_below r2 hb 0 _ ey0, rangeAt_below r2 hb 2 _ ey2, rangeAt_below r2 hb 20 _ ey20⟩)
  clear r1 r2 ex0 ey0 ex2 ey2 ex3 ey3 ex4 ey4 ex5 ey5 ex6 ey6 ex7 ey7 ex8 ey8 ex9 ey9 ex10 ey10 ex11 ey11 ex12 ey12 ex13 ey13 ex14 ey14 ex15 ey15 ex16 ey16 ex17 ey17 ex18 ey18 ex19 ey19 ex20 ey20
  go_enter Tryz.func62, Tryz.ntmps62
  go_upto_region 1 with fail
  rw [← hW0]
  clear hW0
  obtain ⟨p1, hp1⟩ : ∃ p, p = (b2 && b3) := ⟨_, rfl⟩
  obtain ⟨p2, hp2⟩ : ∃ p, p = (b4 && b5) := ⟨_, rfl⟩
  obtain ⟨p3, hp3⟩ : ∃ p, p = (b6 && b7) := ⟨_, rfl⟩
  replace hR : R = (b0 && b1 && p1 && p2 && p3 && eqL arEq la1 la2) := by rw [hR, hp1, hp2, hp3]; simp only [Bool.and_assoc]
  go_cut [5] from 10 to 21 (fun s wc => s = .bool p1 ∧ Below W0.heap.size W0 wc)
  case first =>
    obtain ⟨z1_0, z1_1, z1_2, z1_3, z1_4, z1_5, z1_6, z1_7, z1_8, z1_9⟩ := hz1.out _ ((Below.refl W0.heap.size W0))
    cases b2 with
    | false =>
      have HP := Lib.hid hp1
      clear hR hp1 hp2 hp3
      go_wp2_with (go_at_call 26; refine (hc2.out _ (HW0.out.trans ((Below.refl W0.heap.size W0).mono HW0.out.size))).mono ?_; rintro e w1 ⟨rfl, hb1'⟩; have K1 := Lib.hid ((Below.refl W0.heap.size W0).trans (hb1'.mono (Below.refl W0.heap.size W0).size)); clear hb1'; obtain ⟨y1_0, y1_1, y1_2, y1_3, y1_4, y1_5, y1_6, y1_7, y1_8, y1_9⟩ := hz1.out _ K1.out)
      go_meet
      exact ⟨by rw [HP.out]; first | done | rfl, K1.out⟩
    | true =>
      have HP := Lib.hid hp1
      clear hR hp1 hp2 hp3
      go_wp2_with (first | (go_at_call 26; refine (hc2.out _ (HW0.out.trans ((Below.refl W0.heap.size W0).mono HW0.out.size))).mono ?_; rintro e w1 ⟨rfl, hb1'⟩; have K1 := Lib.hid ((Below.refl W0.heap.size W0).trans (hb1'.mono (Below.refl W0.heap.size W0).size)); clear hb1'; obtain ⟨y1_0, y1_1, y1_2, y1_3, y1_4, y1_5, y1_6, y1_7, y1_8, y1_9⟩ := hz1.out _ K1.out) | (go_at_call 86; refine (hc3.out w1 (HW0.out.trans (K1.out.mono HW0.out.size))).mono ?_; rintro e w2 ⟨rfl, hb2'⟩; have K2 := Lib.hid (K1.out.trans (hb2'.mono K1.out.size)); clear hb2'))
      go_meet
      exact ⟨by rw [HP.out]; first | done | rfl, K2.out⟩
  case rest =>
  obtain ⟨rfl, hk1⟩ := hcut
  obtain ⟨v1, rfl⟩ : ∃ v : World, v = wc := ⟨_, rfl⟩
  have KK1 := Lib.hid hk1
  clear hk1
  clear hp1
  go_upto_region 2 with fail
  go_cut [6] from 22 to 33 (fun s wc => s = .bool p2 ∧ Below W0.heap.size W0 wc)
  case first =>
    obtain ⟨z2_0, z2_1, z2_2, z2_3, z2_4, z2_5, z2_6, z2_7, z2_8, z2_9, z2_10, z2_11, z2_12, z2_13, z2_14, z2_15, z2_16, z2_17, z2_18, z2_19⟩ := hz2.out _ (KK1.out)
    cases b4 with
    | false =>
      have HP := Lib.hid hp2
      clear hR hp2 hp3
      go_wp2_with (go_at_call 87; refine (hc4.out _ (HW0.out.trans (KK1.out.mono HW0.out.size))).mono ?_; rintro e w1 ⟨rfl, hb1'⟩; have K1 := Lib.hid (KK1.out.trans (hb1'.mono KK1.out.size)); clear hb1'; obtain ⟨y2_0, y2_1, y2_2, y2_3, y2_4, y2_5, y2_6, y2_7, y2_8, y2_9, y2_10, y2_11, y2_12, y2_13, y2_14, y2_15, y2_16, y2_17, y2_18, y2_19⟩ := hz2.out _ K1.out)
      go_meet
      exact ⟨by rw [HP.out]; first | done | rfl, K1.out⟩
    | true =>
      have HP := Lib.hid hp2
      clear hR hp2 hp3
      go_wp2_with (first | (go_at_call 87; refine (hc4.out _ (HW0.out.trans (KK1.out.mono HW0.out.size))).mono ?_; rintro e w1 ⟨rfl, hb1'⟩; have K1 := Lib.hid (KK1.out.trans (hb1'.mono KK1.out.size)); clear hb1'; obtain ⟨y2_0, y2_1, y2_2, y2_3, y2_4, y2_5, y2_6, y2_7, y2_8, y2_9, y2_10, y2_11, y2_12, y2_13, y2_14, y2_15, y2_16, y2_17, y2_18, y2_19⟩ := hz2.out _ K1.out) | (go_at_call 88; refine (hc5.out w1 (HW0.out.trans (K1.out.mono HW0.out.size))).mono ?_; rintro e w2 ⟨rfl, hb2'⟩; have K2 := Lib.hid (K1.out.trans (hb2'.mono K1.out.size)); clear hb2'))
      go_meet
      exact ⟨by rw [HP.out]; first | done | rfl, K2.out⟩
  case rest =>
  obtain ⟨rfl, hk2⟩ := hcut
  obtain ⟨v2, rfl⟩ : ∃ v : World, v = wc := ⟨_, rfl⟩
  have KK2 := Lib.hid hk2
  clear hk2
  clear hp2
  go_upto_region 3 with fail
  go_cut [7] from 34 to 45 (fun s wc => s = .bool p3 ∧ Below W0.heap.size W0 wc)
  case first =>
    obtain ⟨z3_0, z3_1, z3_2, z3_3⟩ := hz3.out _ (KK2.out)
    cases b6 with
    | false =>
      have HP := Lib.hid hp3
      clear hR hp3
      go_wp2_with (go_at_call_of 27 (Value.slice ht1.oa th1.length ht1.cap); refine (hc6.out _ (HW0.out.trans (KK2.out.mono HW0.out.size))).mono ?_; rintro e w1 ⟨rfl, hb1'⟩; have K1 := Lib.hid (KK2.out.trans (hb1'.mono KK2.out.size)); clear hb1'; obtain ⟨y3_0, y3_1, y3_2, y3_3⟩ := hz3.out _ K1.out)
      go_meet
      exact ⟨by rw [HP.out]; first | done | rfl, K1.out⟩
    | true =>
      have HP := Lib.hid hp3
      clear hR hp3
      go_wp2_with (first | (go_at_call_of 27 (Value.slice ht1.oa th1.length ht1.cap); refine (hc6.out _ (HW0.out.trans (KK2.out.mono HW0.out.size))).mono ?_; rintro e w1 ⟨rfl, hb1'⟩; have K1 := Lib.hid (KK2.out.trans (hb1'.mono KK2.out.size)); clear hb1'; obtain ⟨y3_0, y3_1, y3_2, y3_3⟩ := hz3.out _ K1.out) | (go_at_call_of 27 (Value.slice he1.oa el1.length he1.cap); refine (hc7.out w1 (HW0.out.trans (K1.out.mono HW0.out.size))).mono ?_; rintro e w2 ⟨rfl, hb2'⟩; have K2 := Lib.hid (K1.out.trans (hb2'.mono K1.out.size)); clear hb2'))
      go_meet
      exact ⟨by rw [HP.out]; first | done | rfl, K2.out⟩
  case rest =>
  obtain ⟨rfl, hk3⟩ := hcut
  obtain ⟨v3, rfl⟩ : ∃ v : World, v = wc := ⟨_, rfl⟩
  have KK3 := Lib.hid hk3
  clear hk3
  clear hp3
  have HKW := Lib.hid (HW0.out.trans (KK3.out.mono HW0.out.size))
  obtain ⟨x0, x2, x20, y0, y2, y20⟩ := hz4.out _ KK3.out
  clear hc2 hc3 hc4 hc5 hc6 hc7 hz1 hz2 hz3 KK1 KK2
  cases p1 with
  | false =>
    have HR := Lib.hid (show R = false by rw [hR]; simp)
    clear hR
    go_wp2_with fail
    go_ret
    exact ⟨by rw [HR.out]; first | done | rfl, HKW.out⟩
  | true =>
  cases p2 with
  | false =>
    have HR := Lib.hid (show R = false by rw [hR]; simp)
    clear hR
    go_wp2_with fail
    go_ret
    exact ⟨by rw [HR.out]; first | done | rfl, HKW.out⟩
  | true =>
  cases p3 with
  | false =>
    have HR := Lib.hid (show R = false by rw [hR]; simp)
    clear hR
    go_wp2_with fail
    go_ret
    exact ⟨by rw [HR.out]; first | done | rfl, HKW.out⟩
  | true =>
  cases b0 with
  | false =>
    rw [Bool.not_false] at t0
    have HR := Lib.hid (show R = false by rw [hR]; simp)
    clear hR
    go_wp2_with fail
    go_ret
    exact ⟨by rw [HR.out]; first | done | rfl, HKW.out⟩
  | true =>
  rw [Bool.not_true] at t0
  cases b1 with
  | false =>
    have HR := Lib.hid (show R = false by rw [hR]; simp)
    clear hR
    go_wp2_with fail
    go_ret
    exact ⟨by rw [HR.out]; first | done | rfl, HKW.out⟩
  | true =>
  by_cases hl : la1.length = la2.length
  · have HR := Lib.hid (show R = eqL arEq la1 la2 by rw [hR]; rfl)
    have t3 : ((la1.length : Int) != (la2.length : Int)) = false := by simp; omega
    have HL := Lib.hid hl
    have hl1 : la1.length ≤ la2.length := by omega
    clear hl hR
    go_wp2_with fail
    clear x0 x2 x20 y0 y2 y20 t0 t1 HKW
    go_loopw [8] (fun u wr => ∃ j : Nat, j ≤ la1.length ∧ u = .int .i64 j ∧ eqL arEq (la1.drop j) (la2.drop j) = R ∧ Below W0.heap.size W0 wr) (fun u _ => la1.length - (intOf u).toNat)
    case atStart => exact ⟨0, by omega, rfl, by simpa using HR.out.symm, KK3.out⟩
    case round =>
      clear HR KK3
      obtain ⟨j, hj, rfl, hs, hbw⟩ := hrel
      obtain ⟨wo, rfl⟩ : ∃ wo : World, wo = wr := ⟨_, rfl⟩
      obtain ⟨-, -, x20, -, -, y20⟩ := hz4.out _ hbw
      have HS := Lib.hid hs
      clear hs
      have HKK := Lib.hid (HW0.out.trans (hbw.mono HW0.out.size))
      by_cases hjl : j < la1.length
      · have t1 : decide ((j : Int) < la1.length) = true := by simp; omega
        obtain ⟨ba, offa, rfl, hxlt, hxc⟩ := ha3.out (by omega)
        obtain ⟨bb, offb, rfl, hylt, hyc⟩ := hb3.out (by omega)
        have hjb : j < la2.length := by omega
        obtain ⟨x, y, hx, hy, hd⟩ := drop_two arEq hjl hjb
        have HD := Lib.hid (hd.symm.trans HS.out)
        have hax := ArH.below (ha4.out x (List.mem_of_getElem? hx)) HKK.out
        have hay := ArH.below (hb4.out y (List.mem_of_getElem? hy)) HKK.out
        obtain ⟨avx, abx, ahx, ayx⟩ := x
        obtain ⟨avy, aby, ahy, ayy⟩ := y
        obtain ⟨m, rfl⟩ : ∃ m, n = m + 1 := by
          cases n with
          | zero => unfold ArH at hax; exact hax.elim
          | succ m => exact ⟨m, rfl⟩
        unfold ArH at hax hay
        have hc := fun W (hW : Below wo.heap.size wo W) => ihB.out ahx ahy ayx ayy W (Row.below hax hW fun _ _ hx => (StAr.succ _).1 (StH.below hx hW)) (Row.below hay hW fun _ _ hx => (StAr.succ _).1 (StH.below hx hW))
        rw [arEq, stsEq_eq] at HD
        obtain ⟨bv, hbv⟩ : ∃ b, b = eqL stEq ayx ayy := ⟨_, rfl⟩
        rw [← hbv] at hc HD
        clear hbv hax hay
        replace hc := Lib.hid hc
        have gx0 : wo.cell? ⟨ba, offa + j * 3, none⟩ = some (.string avx) := (HKK.out.cell (p := ⟨ba, offa + j * 3, none⟩) hxlt).trans (by simpa using hxc j _ hx 0 _ rfl)
        have gx1 : wo.cell? ⟨ba, offa + j * 3 + 1, none⟩ = some (.string abx) := (HKK.out.cell (p := ⟨ba, offa + j * 3 + 1, none⟩) hxlt).trans (by simpa using hxc j _ hx 1 _ rfl)
        have gx2 : wo.cell? ⟨ba, offa + j * 3 + 2, none⟩ = some (.slice ahx.oa ayx.length ahx.cap) := (HKK.out.cell (p := ⟨ba, offa + j * 3 + 2, none⟩) hxlt).trans (by simpa using hxc j _ hx 2 _ rfl)
        have gy0 : wo.cell? ⟨bb, offb + j * 3, none⟩ = some (.string avy) := (HKK.out.cell (p := ⟨bb, offb + j * 3, none⟩) hylt).trans (by simpa using hyc j _ hy 0 _ rfl)
        have gy1 : wo.cell? ⟨bb, offb + j * 3 + 1, none⟩ = some (.string aby) := (HKK.out.cell (p := ⟨bb, offb + j * 3 + 1, none⟩) hylt).trans (by simpa using hyc j _ hy 1 _ rfl)
        have gy2 : wo.cell? ⟨bb, offb + j * 3 + 2, none⟩ = some (.slice ahy.oa ayy.length ahy.cap) := (HKK.out.cell (p := ⟨bb, offb + j * 3 + 2, none⟩) hylt).trans (by simpa using hyc j _ hy 2 _ rfl)
        have HBW := Lib.hid hbw
        have HQ := Lib.hid (show ∀ w', Below wo.heap.size wo w' → w'.cell? ⟨w.heap.size, 20, none⟩ = some (.slice (some ⟨ba, offa, none⟩) la1.length capa1) ∧ w'.cell? ⟨w.heap.size + 1, 20, none⟩ = some (.slice (some ⟨bb, offb, none⟩) la2.length capa2) ∧ w'.cell? ⟨ba, offa + j * 3, none⟩ = some (.string avx) ∧ w'.cell? ⟨ba, offa + j * 3 + 1, none⟩ = some (.string abx) ∧ w'.cell? ⟨ba, offa + j * 3 + 2, none⟩ = some (.slice ahx.oa ayx.length ahx.cap) ∧ w'.cell? ⟨bb, offb + j * 3, none⟩ = some (.string avy) ∧ w'.cell? ⟨bb, offb + j * 3 + 1, none⟩ = some (.string aby) ∧ w'.cell? ⟨bb, offb + j * 3 + 2, none⟩ = some (.slice ahy.oa ayy.length ahy.cap) from fun w' h => ⟨(hz4.out _ (hbw.trans (h.mono hbw.size))).2.2.1, (hz4.out _ (hbw.trans (h.mono hbw.size))).2.2.2.2.2, (h.cell (p := ⟨ba, offa + j * 3, none⟩) (Nat.lt_of_lt_of_le hxlt HKK.out.size)).trans gx0, (h.cell (p := ⟨ba, offa + j * 3 + 1, none⟩) (Nat.lt_of_lt_of_le hxlt HKK.out.size)).trans gx1, (h.cell (p := ⟨ba, offa + j * 3 + 2, none⟩) (Nat.lt_of_lt_of_le hxlt HKK.out.size)).trans gx2, (h.cell (p := ⟨bb, offb + j * 3, none⟩) (Nat.lt_of_lt_of_le hylt HKK.out.size)).trans gy0, (h.cell (p := ⟨bb, offb + j * 3 + 1, none⟩) (Nat.lt_of_lt_of_le hylt HKK.out.size)).trans gy1, (h.cell (p := ⟨bb, offb + j * 3 + 2, none⟩) (Nat.lt_of_lt_of_le hylt HKK.out.size)).trans gy2⟩)
        clear hx hy hxc hyc hd HS hbw hxlt hylt HKK
        have s1 := str_eq avx avy
        have s2 := str_eq abx aby
        cases bv with
        | true =>
          cases d1 : decide (avx = avy) with
          | true =>
            rw [d1] at s1 HD
            clear d1
            cases d2 : decide (abx = aby) with
            | true =>
              rw [d2] at s2 HD
              clear d2
              go_wp2_with fail
              go_region_held3 (fun w' => w'.cell? ⟨w.heap.size, 20, none⟩ = some (.slice (some ⟨ba, offa, none⟩) la1.length capa1) ∧ w'.cell? ⟨w.heap.size + 1, 20, none⟩ = some (.slice (some ⟨bb, offb, none⟩) la2.length capa2) ∧ w'.cell? ⟨ba, offa + j * 3, none⟩ = some (.string avx) ∧ w'.cell? ⟨ba, offa + j * 3 + 1, none⟩ = some (.string abx) ∧ w'.cell? ⟨ba, offa + j * 3 + 2, none⟩ = some (.slice ahx.oa ayx.length ahx.cap) ∧ w'.cell? ⟨bb, offb + j * 3, none⟩ = some (.string avy) ∧ w'.cell? ⟨bb, offb + j * 3 + 1, none⟩ = some (.string aby) ∧ w'.cell? ⟨bb, offb + j * 3 + 2, none⟩ = some (.slice ahy.oa ayy.length ahy.cap)) (first | (refine ⟨?_, ?_, ?_, ?_, ?_, ?_, ?_, ?_⟩ <;> assumption) | go_keep)
                (first | (go_at_call 27; refine (hc.out wo.drew (by exact (Below.refl _ _).drew)).mono ?_; rintro e w2 ⟨rfl, hb1'⟩; have hb1 := undrew2 hb1'; obtain ⟨u0, u1, u2, u3, u4, u5, u6, u7⟩ := HQ.out w2 hb1; have HB1 := Lib.hid (HBW.out.trans (hb1.mono HBW.out.size)); clear hb1' hb1))
              go_wp2
              go_quiet (fail)
              have HBQ := Lib.hid (show Below W0.heap.size W0 (w2.drewN nq) from ⟨HB1.out.os, HB1.out.tape, HB1.out.output, HB1.out.size, HB1.out.block⟩)
              have HBR := Lib.hid (HW0.out.trans (HBQ.out.mono HW0.out.size))
              clear u0 u1 u2 u3 u4 u5 u6 u7
              go_wp2
              go_roundw
              case rel => exact ⟨j + 1, by omega, by go_num, by rw [← HD.out]; simp, HBQ.out⟩
              case measure => simp [intOf]; omega
            | false =>
              rw [d2] at s2 HD
              clear d2
              go_wp2_with fail
              go_region_held3 (fun w' => w'.cell? ⟨w.heap.size, 20, none⟩ = some (.slice (some ⟨ba, offa, none⟩) la1.length capa1) ∧ w'.cell? ⟨w.heap.size + 1, 20, none⟩ = some (.slice (some ⟨bb, offb, none⟩) la2.length capa2) ∧ w'.cell? ⟨ba, offa + j * 3, none⟩ = some (.string avx) ∧ w'.cell? ⟨ba, offa + j * 3 + 1, none⟩ = some (.string abx) ∧ w'.cell? ⟨ba, offa + j * 3 + 2, none⟩ = some (.slice ahx.oa ayx.length ahx.cap) ∧ w'.cell? ⟨bb, offb + j * 3, none⟩ = some (.string avy) ∧ w'.cell? ⟨bb, offb + j * 3 + 1, none⟩ = some (.string aby) ∧ w'.cell? ⟨bb, offb + j * 3 + 2, none⟩ = some (.slice ahy.oa ayy.length ahy.cap)) (first | (refine ⟨?_, ?_, ?_, ?_, ?_, ?_, ?_, ?_⟩ <;> assumption) | go_keep)
                (first | (go_at_call 27; refine (hc.out wo.drew (by exact (Below.refl _ _).drew)).mono ?_; rintro e w2 ⟨rfl, hb1'⟩; have hb1 := undrew2 hb1'; obtain ⟨u0, u1, u2, u3, u4, u5, u6, u7⟩ := HQ.out w2 hb1; have HB1 := Lib.hid (HBW.out.trans (hb1.mono HBW.out.size)); clear hb1' hb1))
              go_wp2
              go_quiet (fail)
              have HBQ := Lib.hid (show Below W0.heap.size W0 (w2.drewN nq) from ⟨HB1.out.os, HB1.out.tape, HB1.out.output, HB1.out.size, HB1.out.block⟩)
              have HBR := Lib.hid (HW0.out.trans (HBQ.out.mono HW0.out.size))
              clear u0 u1 u2 u3 u4 u5 u6 u7
              go_wp2
              go_ret
              exact ⟨by rw [← HD.out]; first | done | rfl, HBR.out⟩
          | false =>
            rw [d1] at s1 HD
            clear d1
            go_wp2_with fail
            go_region_held3 (fun w' => w'.cell? ⟨w.heap.size, 20, none⟩ = some (.slice (some ⟨ba, offa, none⟩) la1.length capa1) ∧ w'.cell? ⟨w.heap.size + 1, 20, none⟩ = some (.slice (some ⟨bb, offb, none⟩) la2.length capa2) ∧ w'.cell? ⟨ba, offa + j * 3, none⟩ = some (.string avx) ∧ w'.cell? ⟨ba, offa + j * 3 + 1, none⟩ = some (.string abx) ∧ w'.cell? ⟨ba, offa + j * 3 + 2, none⟩ = some (.slice ahx.oa ayx.length ahx.cap) ∧ w'.cell? ⟨bb, offb + j * 3, none⟩ = some (.string avy) ∧ w'.cell? ⟨bb, offb + j * 3 + 1, none⟩ = some (.string aby) ∧ w'.cell? ⟨bb, offb + j * 3 + 2, none⟩ = some (.slice ahy.oa ayy.length ahy.cap)) (first | (refine ⟨?_, ?_, ?_, ?_, ?_, ?_, ?_, ?_⟩ <;> assumption) | go_keep)
              (first | (go_at_call 27; refine (hc.out wo.drew (by exact (Below.refl _ _).drew)).mono ?_; rintro e w2 ⟨rfl, hb1'⟩; have hb1 := undrew2 hb1'; obtain ⟨u0, u1, u2, u3, u4, u5, u6, u7⟩ := HQ.out w2 hb1; have HB1 := Lib.hid (HBW.out.trans (hb1.mono HBW.out.size)); clear hb1' hb1))
            go_wp2
            go_quiet (fail)
            have HBQ := Lib.hid (show Below W0.heap.size W0 (w2.drewN nq) from ⟨HB1.out.os, HB1.out.tape, HB1.out.output, HB1.out.size, HB1.out.block⟩)
            have HBR := Lib.hid (HW0.out.trans (HBQ.out.mono HW0.out.size))
            clear u0 u1 u2 u3 u4 u5 u6 u7
            go_wp2
            go_ret
            exact ⟨by rw [← HD.out]; first | done | rfl, HBR.out⟩
        | false =>
          go_wp2_with fail
          go_region_held3 (fun w' => w'.cell? ⟨w.heap.size, 20, none⟩ = some (.slice (some ⟨ba, offa, none⟩) la1.length capa1) ∧ w'.cell? ⟨w.heap.size + 1, 20, none⟩ = some (.slice (some ⟨bb, offb, none⟩) la2.length capa2) ∧ w'.cell? ⟨ba, offa + j * 3, none⟩ = some (.string avx) ∧ w'.cell? ⟨ba, offa + j * 3 + 1, none⟩ = some (.string abx) ∧ w'.cell? ⟨ba, offa + j * 3 + 2, none⟩ = some (.slice ahx.oa ayx.length ahx.cap) ∧ w'.cell? ⟨bb, offb + j * 3, none⟩ = some (.string avy) ∧ w'.cell? ⟨bb, offb + j * 3 + 1, none⟩ = some (.string aby) ∧ w'.cell? ⟨bb, offb + j * 3 + 2, none⟩ = some (.slice ahy.oa ayy.length ahy.cap)) (first | (refine ⟨?_, ?_, ?_, ?_, ?_, ?_, ?_, ?_⟩ <;> assumption) | go_keep)
            (first | (go_at_call 27; refine (hc.out wo.drew (by exact (Below.refl _ _).drew)).mono ?_; rintro e w2 ⟨rfl, hb1'⟩; have hb1 := undrew2 hb1'; obtain ⟨u0, u1, u2, u3, u4, u5, u6, u7⟩ := HQ.out w2 hb1; have HB1 := Lib.hid (HBW.out.trans (hb1.mono HBW.out.size)); clear hb1' hb1))
          go_wp2
          go_quiet (fail)
          have HBQ := Lib.hid (show Below W0.heap.size W0 (w2.drewN nq) from ⟨HB1.out.os, HB1.out.tape, HB1.out.output, HB1.out.size, HB1.out.block⟩)
          have HBR := Lib.hid (HW0.out.trans (HBQ.out.mono HW0.out.size))
          clear u0 u1 u2 u3 u4 u5 u6 u7
          go_wp2
          go_ret
          exact ⟨by rw [← HD.out]; simp, HBR.out⟩
      · have t1 : decide ((j : Int) < la1.length) = false := by simp; omega
        obtain rfl : j = la1.length := by omega
        have HZ := Lib.hid (show true = R by rw [← HS.out, eqL_end _ HL.out])
        go_wp2
        go_ret
        exact ⟨by rw [← HZ.out]; first | done | rfl, HKK.out⟩
  · have t3 : ((la1.length : Int) != (la2.length : Int)) = true := by simp; omega
    have HR := Lib.hid (show R = false by rw [hR]; rw [eqL_len _ hl]; rfl)
    clear hR
    go_wp2_with fail
    go_ret
    exact ⟨by rw [HR.out]; first | done | rfl, HKW.out⟩

end Go.Proofs.YtgogdcpgfmndnaaGreatDoor
