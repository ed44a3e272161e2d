/-
  validStmt, validBlock and Valid of the reference's text. Conditions: the source lies in the heap.
-/
import Derived.Test.YtgogdcpgfmndnaaGreatDoorTVerA
import Derived.Test.YtgogdcpgfmndnaaGreatDoorTRefF
namespace Go.Proofs.YtgogdcpgfmndnaaGreatDoor
open Go.RowKit

set_option maxRecDepth 100000 in
set_option maxHeartbeats 64000000 in
theorem rValidStmt_0 (n d : Nat) (_ : d ≤ 60) (sp1 : Int) (sn1 : ByteArray) (k1 : Int) (nm1 : ByteArray) (h1 : Hd) (l1 : List Ty5) (pn1 : ByteArray) (ph1 : Hd) (pp1 : List ByteArray) (rk1 : Int) (rh1 : Hd) (ro1 : List Op5) (pnr1 : ByteArray) (phr1 : Hd) (ppr1 : List ByteArray) (rn1 rr1 : ByteArray) (ono1 : Bool) (oio1 : Int) (pno1 : ByteArray) (pho1 : Hd) (ppo1 : List ByteArray) (ht1 : Hd) (th1 : List St5) (he1 : Hd) (el1 : List St5) (ha1 : Hd) (ar1 : List Ar5) (w : World) (hA : StH (n + 1) w (.mk 0 sp1 sn1 (.mk k1 nm1 h1 l1) ⟨pn1, ph1, pp1⟩ ⟨rk1, rh1, ro1, ⟨pnr1, phr1, ppr1⟩, rn1, rr1⟩ ⟨ono1, oio1, ⟨pno1, pho1, ppo1⟩⟩ ht1 th1 he1 el1 ha1 ar1))
    (_ : ∀ (d : Nat), d ≤ 61 → ∀ (h : Hd) (l : List St5) (w : World), Row w h 21 l stC (StH n w) → Calls Tryz.prog 33 #[.slice h.oa l.length h.cap, .int .i64 d] w fun e w' => e = .returned (.bool (rowOk d l)) ∧ Below w.heap.size w w') :
    Calls Tryz.prog 66 #[stV (.mk 0 sp1 sn1 (.mk k1 nm1 h1 l1) ⟨pn1, ph1, pp1⟩ ⟨rk1, rh1, ro1, ⟨pnr1, phr1, ppr1⟩, rn1, rr1⟩ ⟨ono1, oio1, ⟨pno1, pho1, ppo1⟩⟩ ht1 th1 he1 el1 ha1 ar1), .int .i64 d] w fun e w' => e = .returned (.bool (stOk d (.mk 0 sp1 sn1 (.mk k1 nm1 h1 l1) ⟨pn1, ph1, pp1⟩ ⟨rk1, rh1, ro1, ⟨pnr1, phr1, ppr1⟩, rn1, rr1⟩ ⟨ono1, oio1, ⟨pno1, pho1, ppo1⟩⟩ ht1 th1 he1 el1 ha1 ar1))) ∧ Below w.heap.size w w' := by
  obtain ⟨-, A2, A3, A4, A5, A6, A7, A8⟩ := hA
  obtain ⟨R, hR⟩ : ∃ R, R = stOk d (.mk 0 sp1 sn1 (.mk k1 nm1 h1 l1) ⟨pn1, ph1, pp1⟩ ⟨rk1, rh1, ro1, ⟨pnr1, phr1, ppr1⟩, rn1, rr1⟩ ⟨ono1, oio1, ⟨pno1, pho1, ppo1⟩⟩ ht1 th1 he1 el1 ha1 ar1) := ⟨_, rfl⟩
  rw [← hR]
  replace hR : R = ((smallN sn1) && (tyOk 60 (.mk k1 nm1 h1 l1)) && (rvOk ⟨rk1, rh1, ro1, ⟨pnr1, phr1, ppr1⟩, rn1, rr1⟩) && (noPl ⟨pn1, ph1, pp1⟩) && (opEq ⟨ono1, oio1, ⟨pno1, pho1, ppo1⟩⟩ opZ) && (decide (th1.length = 0)) && (decide (el1.length = 0)) && (decide (ar1.length = 0))) := by
    rw [hR, stOk_0, stEq_Z]
    simp only [emptyN_Z, tyEq_refl, rvEq_refl, Bool.and_true, Bool.true_and]
    ac_rfl
  have ch30 : ∀ W, Below w.heap.size w W → Calls Tryz.prog 30 #[tyV (.mk k1 nm1 h1 l1)] W fun e w' => e = .returned (.bool (tyEq (.mk k1 nm1 h1 l1) tyZ)) ∧ Below W.heap.size W w' := fun W _ => rnoTy_any _ W
  have ch90 : ∀ W, Below w.heap.size w W → Calls Tryz.prog 90 #[plV ⟨pn1, ph1, pp1⟩] W fun e w' => e = .returned (.bool (noPl ⟨pn1, ph1, pp1⟩)) ∧ Below W.heap.size W w' := fun W _ => rnoPlace_any _ W
  have ch91 : ∀ W, Below w.heap.size w W → Calls Tryz.prog 91 #[rvV ⟨rk1, rh1, ro1, ⟨pnr1, phr1, ppr1⟩, rn1, rr1⟩] W fun e w' => e = .returned (.bool (rvEq ⟨rk1, rh1, ro1, ⟨pnr1, phr1, ppr1⟩, rn1, rr1⟩ rvZ)) ∧ Below W.heap.size W w' := fun W _ => rnoRv_any _ W
  have ch92 : ∀ W, Below w.heap.size w W → Calls Tryz.prog 92 #[opV ⟨ono1, oio1, ⟨pno1, pho1, ppo1⟩⟩] W fun e w' => e = .returned (.bool (opEq ⟨ono1, oio1, ⟨pno1, pho1, ppo1⟩⟩ opZ)) ∧ Below W.heap.size W w' := fun W _ => rnoOper_any _ W
  have csmall : ∀ W, Below w.heap.size w W → Calls Tryz.prog 32 #[.string sn1] W fun e w' => e = .returned (.bool (smallN sn1)) ∧ Below W.heap.size W w' := fun W _ => rsmall_any sn1 W
  have ctyp : ∀ W, Below w.heap.size w W → Calls Tryz.prog 31 #[tyV (.mk k1 nm1 h1 l1), .int .i64 0] W fun e w' => e = .returned (.bool (tyOk 60 (.mk k1 nm1 h1 l1))) ∧ Below W.heap.size W w' := fun W hW => rvalidTy0 _ _ W (TyH.below _ A2 hW)
  have crv : ∀ W, Below w.heap.size w W → Calls Tryz.prog 93 #[rvV ⟨rk1, rh1, ro1, ⟨pnr1, phr1, ppr1⟩, rn1, rr1⟩] W fun e w' => e = .returned (.bool (rvOk ⟨rk1, rh1, ro1, ⟨pnr1, phr1, ppr1⟩, rn1, rr1⟩)) ∧ Below W.heap.size W w' := fun W hW => rvalidRv_any _ W (A4.below hW)
  clear A2 A3 A4 A5 A6 A7 A8
  obtain ⟨b3, hb3⟩ : ∃ b, b = tyEq (.mk k1 nm1 h1 l1) tyZ := ⟨_, rfl⟩
  rw [← hb3] at ch30
  clear hb3
  obtain ⟨p0, hp0⟩ : ∃ b, b = (emptyN sn1 && b3) := ⟨_, rfl⟩
  obtain ⟨b4, hq⟩ : ∃ b, b = (noPl ⟨pn1, ph1, pp1⟩) := ⟨_, rfl⟩
  rw [← hq] at ch90 hR
  clear hq
  obtain ⟨b5, hq⟩ : ∃ b, b = (rvEq ⟨rk1, rh1, ro1, ⟨pnr1, phr1, ppr1⟩, rn1, rr1⟩ rvZ) := ⟨_, rfl⟩
  rw [← hq] at ch91
  clear hq
  obtain ⟨b6, hq⟩ : ∃ b, b = (opEq ⟨ono1, oio1, ⟨pno1, pho1, ppo1⟩⟩ opZ) := ⟨_, rfl⟩
  rw [← hq] at ch92 hR
  clear hq
  have tb7 : ((th1.length : Int) == 0) = decide (th1.length = 0) := by rw [Bool.eq_iff_iff]; simp
  obtain ⟨b7, hq⟩ : ∃ b, b = decide (th1.length = 0) := ⟨_, rfl⟩
  rw [← hq] at tb7 hR
  clear hq
  have tb8 : ((el1.length : Int) == 0) = decide (el1.length = 0) := by rw [Bool.eq_iff_iff]; simp
  obtain ⟨b8, hq⟩ : ∃ b, b = decide (el1.length = 0) := ⟨_, rfl⟩
  rw [← hq] at tb8 hR
  clear hq
  have tb9 : ((ar1.length : Int) == 0) = decide (ar1.length = 0) := by rw [Bool.eq_iff_iff]; simp
  obtain ⟨b9, hq⟩ : ∃ b, b = decide (ar1.length = 0) := ⟨_, rfl⟩
  rw [← hq] at tb9 hR
  clear hq
  obtain ⟨x0, hq⟩ : ∃ b, b = (smallN sn1) := ⟨_, rfl⟩
  rw [← hq] at csmall hR
  clear hq
  obtain ⟨x1, hq⟩ : ∃ b, b = (tyOk 60 (.mk k1 nm1 h1 l1)) := ⟨_, rfl⟩
  rw [← hq] at ctyp hR
  clear hq
  obtain ⟨x2, hq⟩ : ∃ b, b = (rvOk ⟨rk1, rh1, ro1, ⟨pnr1, phr1, ppr1⟩, rn1, rr1⟩) := ⟨_, rfl⟩
  rw [← hq] at crv hR
  clear hq
  simp only [tyV, tyC] at ch30
  replace ch30 := Lib.hid ch30
  simp only [plV, plC] at ch90
  replace ch90 := Lib.hid ch90
  simp only [rvV, rvC, plC, List.cons_append, List.nil_append] at ch91
  replace ch91 := Lib.hid ch91
  simp only [opV, opC, plC, List.cons_append, List.nil_append] at ch92
  replace ch92 := Lib.hid ch92
  replace csmall := Lib.hid csmall
  simp only [tyV, tyC] at ctyp
  replace ctyp := Lib.hid ctyp
  simp only [rvV, rvC, plC, List.cons_append, List.nil_append] at crv
  replace crv := Lib.hid crv
  simp only [stV]
  obtain ⟨c1, hc1'⟩ : ∃ c, c = stC (.mk 0 sp1 sn1 (.mk k1 nm1 h1 l1) ⟨pn1, ph1, pp1⟩ ⟨rk1, rh1, ro1, ⟨pnr1, phr1, ppr1⟩, rn1, rr1⟩ ⟨ono1, oio1, ⟨pno1, pho1, ppo1⟩⟩ ht1 th1 he1 el1 ha1 ar1) := ⟨_, rfl⟩
  rw [← hc1']
  have e0 : c1[0]? = some (.int .i64 0) := by rw [hc1']; rfl
  have e2 : c1[2]? = some (.string sn1) := by rw [hc1']; rfl
  have e3 : c1[3]? = some (.int .i64 k1) := by rw [hc1']; rfl
  have e4 : c1[4]? = some (.string nm1) := by rw [hc1']; rfl
  have e5 : c1[5]? = some (.slice h1.oa l1.length h1.cap) := by rw [hc1']; rfl
  have e6 : c1[6]? = some (.string pn1) := by rw [hc1']; rfl
  have e7 : c1[7]? = some (.slice ph1.oa pp1.length ph1.cap) := by rw [hc1']; rfl
  have e8 : c1[8]? = some (.int .i64 rk1) := by rw [hc1']; rfl
  have e9 : c1[9]? = some (.slice rh1.oa ro1.length rh1.cap) := by rw [hc1']; rfl
  have e10 : c1[10]? = some (.string pnr1) := by rw [hc1']; rfl
  have e11 : c1[11]? = some (.slice phr1.oa ppr1.length phr1.cap) := by rw [hc1']; rfl
  have e12 : c1[12]? = some (.string rn1) := by rw [hc1']; rfl
  have e13 : c1[13]? = some (.string rr1) := by rw [hc1']; rfl
  have e14 : c1[14]? = some (.bool ono1) := by rw [hc1']; rfl
  have e15 : c1[15]? = some (.int .i64 oio1) := by rw [hc1']; rfl
  have e16 : c1[16]? = some (.string pno1) := by rw [hc1']; rfl
  have e17 : c1[17]? = some (.slice pho1.oa ppo1.length pho1.cap) := by rw [hc1']; rfl
  have e18 : c1[18]? = some (.slice ht1.oa th1.length ht1.cap) := by rw [hc1']; rfl
  have e19 : c1[19]? = some (.slice he1.oa el1.length he1.cap) := by rw [hc1']; rfl
  have e20 : c1[20]? = some (.slice ha1.oa ar1.length ha1.cap) := by rw [hc1']; rfl
  clear hc1'
  obtain ⟨W0, hW0⟩ : ∃ W, W = w.alloc (.cells c1.toArray 52) := ⟨_, rfl⟩
  have HW0 : Below w.heap.size w W0 := by rw [hW0]; exact (Below.refl _ _).alloc (Nat.le_refl _) _
  replace HW0 := Lib.hid HW0
  have r0 : W0.rangeAt w.heap.size 0 c1 := by rw [hW0]; exact rangeAt_box w c1 52
  have hz1 := Lib.hid (show ∀ w', Below W0.heap.size W0 w' → (w'.cell? ⟨w.heap.size, 2, none⟩ = some (.string sn1) ∧ w'.cell? ⟨w.heap.size, 3, none⟩ = some (.int .i64 k1) ∧ w'.cell? ⟨w.heap.size, 4, none⟩ = some (.string nm1) ∧ w'.cell? ⟨w.heap.size, 5, none⟩ = some (.slice h1.oa l1.length h1.cap)) from fun w' hb => by
    have q : ∀ (n : Nat), 0 + n = n := Nat.zero_add
    exact ⟨rangeAt_below r0 hb 2 _ e2, rangeAt_below r0 hb 3 _ e3, rangeAt_below r0 hb 4 _ e4, rangeAt_below r0 hb 5 _ e5⟩)
  have hz2 := Lib.hid (show ∀ w', Below W0.heap.size W0 w' → (w'.cell? ⟨w.heap.size, 6, none⟩ = some (.string pn1) ∧ w'.cell? ⟨w.heap.size, 7, none⟩ = some (.slice ph1.oa pp1.length ph1.cap)) from fun w' hb => by
    have q : ∀ (n : Nat), 0 + n = n := Nat.zero_add
    exact ⟨rangeAt_below r0 hb 6 _ e6, rangeAt_below r0 hb 7 _ e7⟩)
  have hz3 := Lib.hid (show ∀ w', Below W0.heap.size W0 w' → (w'.cell? ⟨w.heap.size, 8, none⟩ = some (.int .i64 rk1) ∧ w'.cell? ⟨w.heap.size, 9, none⟩ = some (.slice rh1.oa ro1.length rh1.cap) ∧ w'.cell? ⟨w.heap.size, 10, none⟩ = some (.string pnr1) ∧ w'.cell? ⟨w.heap.size, 11, none⟩ = some (.slice phr1.oa ppr1.length phr1.cap) ∧ w'.cell? ⟨w.heap.size, 12, none⟩ = some (.string rn1) ∧ w'.cell? ⟨w.heap.size, 13, none⟩ = some (.string rr1)) from fun w' hb => by
    have q : ∀ (n : Nat), 0 + n = n := Nat.zero_add
    exact ⟨rangeAt_below r0 hb 8 _ e8, rangeAt_below r0 hb 9 _ e9, rangeAt_below r0 hb 10 _ e10, rangeAt_below r0 hb 11 _ e11, rangeAt_below r0 hb 12 _ e12, rangeAt_below r0 hb 13 _ e13⟩)
  have hz4 := Lib.hid (show ∀ w', Below W0.heap.size W0 w' → (w'.cell? ⟨w.heap.size, 14, none⟩ = some (.bool ono1) ∧ w'.cell? ⟨w.heap.size, 15, none⟩ = some (.int .i64 oio1) ∧ w'.cell? ⟨w.heap.size, 16, none⟩ = some (.string pno1) ∧ w'.cell? ⟨w.heap.size, 17, none⟩ = some (.slice pho1.oa ppo1.length pho1.cap)) from fun w' hb => by
    have q : ∀ (n : Nat), 0 + n = n := Nat.zero_add
    exact ⟨rangeAt_below r0 hb 14 _ e14, rangeAt_below r0 hb 15 _ e15, rangeAt_below r0 hb 16 _ e16, rangeAt_below r0 hb 17 _ e17⟩)
  have hz5 := Lib.hid (show ∀ w', Below W0.heap.size W0 w' → (w'.cell? ⟨w.heap.size, 0, none⟩ = some (.int .i64 0) ∧ w'.cell? ⟨w.heap.size, 18, none⟩ = some (.slice ht1.oa th1.length ht1.cap) ∧ w'.cell? ⟨w.heap.size, 19, none⟩ = some (.slice he1.oa el1.length he1.cap) ∧ w'.cell? ⟨w.heap.size, 20, none⟩ = some (.slice ha1.oa ar1.length ha1.cap)) from fun w' hb => by
    have q : ∀ (n : Nat), 0 + n = n := Nat.zero_add
    exact ⟨rangeAt_below r0 hb 0 _ e0, rangeAt_below r0 hb 18 _ e18, rangeAt_below r0 hb 19 _ e19, rangeAt_below r0 hb 20 _ e20⟩)
  have hz6 := Lib.hid (show ∀ w', Below W0.heap.size W0 w' → (w'.cell? ⟨w.heap.size, 2, none⟩ = some (.string sn1) ∧ w'.cell? ⟨w.heap.size, 3, none⟩ = some (.int .i64 k1) ∧ w'.cell? ⟨w.heap.size, 4, none⟩ = some (.string nm1) ∧ w'.cell? ⟨w.heap.size, 5, none⟩ = some (.slice h1.oa l1.length h1.cap) ∧ w'.cell? ⟨w.heap.size, 8, none⟩ = some (.int .i64 rk1) ∧ w'.cell? ⟨w.heap.size, 9, none⟩ = some (.slice rh1.oa ro1.length rh1.cap) ∧ w'.cell? ⟨w.heap.size, 10, none⟩ = some (.string pnr1) ∧ w'.cell? ⟨w.heap.size, 11, none⟩ = some (.slice phr1.oa ppr1.length phr1.cap) ∧ w'.cell? ⟨w.heap.size, 12, none⟩ = some (.string rn1) ∧ w'.cell? ⟨w.heap.size, 13, none⟩ = some (.string rr1)) from fun w' hb => by
    have q : ∀ (n : Nat), 0 + n = n := Nat.zero_add
    exact ⟨rangeAt_below r0 hb 2 _ e2, rangeAt_below r0 hb 3 _ e3, rangeAt_below r0 hb 4 _ e4, rangeAt_below r0 hb 5 _ e5, rangeAt_below r0 hb 8 _ e8, rangeAt_below r0 hb 9 _ e9, rangeAt_below r0 hb 10 _ e10, rangeAt_below r0 hb 11 _ e11, rangeAt_below r0 hb 12 _ e12, rangeAt_below r0 hb 13 _ e13⟩)
  clear r0 e0 e2 e3 e4 e5 e6 e7 e8 e9 e10 e11 e12 e13 e14 e15 e16 e17 e18 e19 e20
  have HR0 := Lib.hid hR
  have HP0 := Lib.hid hp0
  clear hR hp0
  go_enter Tryz.func66, Tryz.ntmps66
  go_upto_region 1 with fail
  rw [← hW0]
  clear hW0
  go_cut [5] from 14 to 21 (fun s wc => s = .bool p0 ∧ Below W0.heap.size W0 wc)
  case first =>
    obtain ⟨z2, z3, z4, z5⟩ := hz1.out _ (Below.refl _ _)
    cases he : emptyN sn1 with
    | false =>
      obtain ⟨e1, e2⟩ := empty_no he
      have HE := Lib.hid (show p0 = false by rw [HP0.out, he]; rfl)
      clear he
      go_wp2_with fail
      go_meet
      exact ⟨by rw [HE.out]; first | done | rfl, Below.refl _ _⟩
    | true =>
      have HE := Lib.hid (show p0 = b3 by rw [HP0.out, he]; rfl)
      obtain rfl := empty_of he
      clear he
      go_wp2_with (go_at_call 30; refine (ch30.out _ HW0.out).mono ?_; rintro e w1 ⟨rfl, hb1'⟩; have K1 := Lib.hid hb1'; clear hb1')
      go_meet
      exact ⟨by rw [HE.out]; first | done | rfl, K1.out⟩
  case rest =>
  obtain ⟨rfl, hk⟩ := hcut
  obtain ⟨v1, rfl⟩ : ∃ v : World, v = wc := ⟨_, rfl⟩
  have K1 := Lib.hid hk
  clear hk HP0
  obtain ⟨y6, y7⟩ := hz2.out _ K1.out
  go_upto_region 10 with (first
    | (go_at_call 90; refine (ch90.out _ (HW0.out.trans (K1.out.mono HW0.out.size))).mono ?_; rintro e v2 ⟨rfl, hb⟩; have K2 := Lib.hid (K1.out.trans (hb.mono K1.out.size)); clear hb; obtain ⟨y8, y9, y10, y11, y12, y13⟩ := hz3.out _ K2.out)
    | (go_at_call 91; refine (ch91.out _ (HW0.out.trans (K2.out.mono HW0.out.size))).mono ?_; rintro e v3 ⟨rfl, hb⟩; have K3 := Lib.hid (K2.out.trans (hb.mono K2.out.size)); clear hb; obtain ⟨y14, y15, y16, y17⟩ := hz4.out _ K3.out)
    | (go_at_call 92; refine (ch92.out _ (HW0.out.trans (K3.out.mono HW0.out.size))).mono ?_; rintro e v4 ⟨rfl, hb⟩; have K4 := Lib.hid (K3.out.trans (hb.mono K3.out.size)); clear hb; obtain ⟨y0, y18, y19, y20⟩ := hz5.out _ K4.out))
  obtain ⟨q4_2, q4_3, q4_4, q4_5, q4_8, q4_9, q4_10, q4_11, q4_12, q4_13⟩ := hz6.out _ K4.out
  have hR := HR0.out
  clear HR0 ch30 ch90 ch91 ch92 hz1 hz2 hz3 hz4 hz5
  cases x0 with
  | false =>
    have HR := Lib.hid (show R = false by rw [hR]; first | done | rfl | simp)
    clear hR
    go_wp2_with (first | (go_at_call 32; refine (csmall.out _ (HW0.out.trans (K4.out.mono HW0.out.size))).mono ?_; rintro e v5 ⟨rfl, hb⟩; have K5 := Lib.hid (K4.out.trans (hb.mono K4.out.size)); clear hb; obtain ⟨q5_2, q5_3, q5_4, q5_5, q5_8, q5_9, q5_10, q5_11, q5_12, q5_13⟩ := hz6.out _ K5.out))
    go_ret
    exact ⟨by rw [HR.out]; first | done | rfl, HW0.out.trans (K5.out.mono HW0.out.size)⟩
  | true =>
  cases x1 with
  | false =>
    have HR := Lib.hid (show R = false by rw [hR]; first | done | rfl | simp)
    clear hR
    go_wp2_with (first | (go_at_call 32; refine (csmall.out _ (HW0.out.trans (K4.out.mono HW0.out.size))).mono ?_; rintro e v5 ⟨rfl, hb⟩; have K5 := Lib.hid (K4.out.trans (hb.mono K4.out.size)); clear hb; obtain ⟨q5_2, q5_3, q5_4, q5_5, q5_8, q5_9, q5_10, q5_11, q5_12, q5_13⟩ := hz6.out _ K5.out) | (go_at_call 31; refine (ctyp.out _ (HW0.out.trans (K5.out.mono HW0.out.size))).mono ?_; rintro e v6 ⟨rfl, hb⟩; have K6 := Lib.hid (K5.out.trans (hb.mono K5.out.size)); clear hb; obtain ⟨q6_2, q6_3, q6_4, q6_5, q6_8, q6_9, q6_10, q6_11, q6_12, q6_13⟩ := hz6.out _ K6.out))
    go_ret
    exact ⟨by rw [HR.out]; first | done | rfl, HW0.out.trans (K6.out.mono HW0.out.size)⟩
  | true =>
  cases x2 with
  | false =>
    have HR := Lib.hid (show R = false by rw [hR]; first | done | rfl | simp)
    clear hR
    go_wp2_with (first | (go_at_call 32; refine (csmall.out _ (HW0.out.trans (K4.out.mono HW0.out.size))).mono ?_; rintro e v5 ⟨rfl, hb⟩; have K5 := Lib.hid (K4.out.trans (hb.mono K4.out.size)); clear hb; obtain ⟨q5_2, q5_3, q5_4, q5_5, q5_8, q5_9, q5_10, q5_11, q5_12, q5_13⟩ := hz6.out _ K5.out) | (go_at_call 31; refine (ctyp.out _ (HW0.out.trans (K5.out.mono HW0.out.size))).mono ?_; rintro e v6 ⟨rfl, hb⟩; have K6 := Lib.hid (K5.out.trans (hb.mono K5.out.size)); clear hb; obtain ⟨q6_2, q6_3, q6_4, q6_5, q6_8, q6_9, q6_10, q6_11, q6_12, q6_13⟩ := hz6.out _ K6.out) | (go_at_call 93; refine (crv.out _ (HW0.out.trans (K6.out.mono HW0.out.size))).mono ?_; rintro e v7 ⟨rfl, hb⟩; have K7 := Lib.hid (K6.out.trans (hb.mono K6.out.size)); clear hb; obtain ⟨q7_2, q7_3, q7_4, q7_5, q7_8, q7_9, q7_10, q7_11, q7_12, q7_13⟩ := hz6.out _ K7.out))
    go_ret
    exact ⟨by rw [HR.out]; first | done | rfl, HW0.out.trans (K7.out.mono HW0.out.size)⟩
  | true =>
  cases b4 with
  | false =>
    have HR := Lib.hid (show R = false by rw [hR]; first | done | rfl | simp)
    clear hR
    go_wp2_with (first | (go_at_call 32; refine (csmall.out _ (HW0.out.trans (K4.out.mono HW0.out.size))).mono ?_; rintro e v5 ⟨rfl, hb⟩; have K5 := Lib.hid (K4.out.trans (hb.mono K4.out.size)); clear hb; obtain ⟨q5_2, q5_3, q5_4, q5_5, q5_8, q5_9, q5_10, q5_11, q5_12, q5_13⟩ := hz6.out _ K5.out) | (go_at_call 31; refine (ctyp.out _ (HW0.out.trans (K5.out.mono HW0.out.size))).mono ?_; rintro e v6 ⟨rfl, hb⟩; have K6 := Lib.hid (K5.out.trans (hb.mono K5.out.size)); clear hb; obtain ⟨q6_2, q6_3, q6_4, q6_5, q6_8, q6_9, q6_10, q6_11, q6_12, q6_13⟩ := hz6.out _ K6.out) | (go_at_call 93; refine (crv.out _ (HW0.out.trans (K6.out.mono HW0.out.size))).mono ?_; rintro e v7 ⟨rfl, hb⟩; have K7 := Lib.hid (K6.out.trans (hb.mono K6.out.size)); clear hb; obtain ⟨q7_2, q7_3, q7_4, q7_5, q7_8, q7_9, q7_10, q7_11, q7_12, q7_13⟩ := hz6.out _ K7.out))
    go_ret
    exact ⟨by rw [HR.out]; first | done | rfl, HW0.out.trans (K7.out.mono HW0.out.size)⟩
  | true =>
  cases b6 with
  | false =>
    have HR := Lib.hid (show R = false by rw [hR]; first | done | rfl | simp)
    clear hR
    go_wp2_with (first | (go_at_call 32; refine (csmall.out _ (HW0.out.trans (K4.out.mono HW0.out.size))).mono ?_; rintro e v5 ⟨rfl, hb⟩; have K5 := Lib.hid (K4.out.trans (hb.mono K4.out.size)); clear hb; obtain ⟨q5_2, q5_3, q5_4, q5_5, q5_8, q5_9, q5_10, q5_11, q5_12, q5_13⟩ := hz6.out _ K5.out) | (go_at_call 31; refine (ctyp.out _ (HW0.out.trans (K5.out.mono HW0.out.size))).mono ?_; rintro e v6 ⟨rfl, hb⟩; have K6 := Lib.hid (K5.out.trans (hb.mono K5.out.size)); clear hb; obtain ⟨q6_2, q6_3, q6_4, q6_5, q6_8, q6_9, q6_10, q6_11, q6_12, q6_13⟩ := hz6.out _ K6.out) | (go_at_call 93; refine (crv.out _ (HW0.out.trans (K6.out.mono HW0.out.size))).mono ?_; rintro e v7 ⟨rfl, hb⟩; have K7 := Lib.hid (K6.out.trans (hb.mono K6.out.size)); clear hb; obtain ⟨q7_2, q7_3, q7_4, q7_5, q7_8, q7_9, q7_10, q7_11, q7_12, q7_13⟩ := hz6.out _ K7.out))
    go_ret
    exact ⟨by rw [HR.out]; first | done | rfl, HW0.out.trans (K7.out.mono HW0.out.size)⟩
  | true =>
  cases b7 with
  | false =>
    have HR := Lib.hid (show R = false by rw [hR]; first | done | rfl | simp)
    clear hR
    go_wp2_with (first | (go_at_call 32; refine (csmall.out _ (HW0.out.trans (K4.out.mono HW0.out.size))).mono ?_; rintro e v5 ⟨rfl, hb⟩; have K5 := Lib.hid (K4.out.trans (hb.mono K4.out.size)); clear hb; obtain ⟨q5_2, q5_3, q5_4, q5_5, q5_8, q5_9, q5_10, q5_11, q5_12, q5_13⟩ := hz6.out _ K5.out) | (go_at_call 31; refine (ctyp.out _ (HW0.out.trans (K5.out.mono HW0.out.size))).mono ?_; rintro e v6 ⟨rfl, hb⟩; have K6 := Lib.hid (K5.out.trans (hb.mono K5.out.size)); clear hb; obtain ⟨q6_2, q6_3, q6_4, q6_5, q6_8, q6_9, q6_10, q6_11, q6_12, q6_13⟩ := hz6.out _ K6.out) | (go_at_call 93; refine (crv.out _ (HW0.out.trans (K6.out.mono HW0.out.size))).mono ?_; rintro e v7 ⟨rfl, hb⟩; have K7 := Lib.hid (K6.out.trans (hb.mono K6.out.size)); clear hb; obtain ⟨q7_2, q7_3, q7_4, q7_5, q7_8, q7_9, q7_10, q7_11, q7_12, q7_13⟩ := hz6.out _ K7.out))
    go_ret
    exact ⟨by rw [HR.out]; first | done | rfl, HW0.out.trans (K7.out.mono HW0.out.size)⟩
  | true =>
  cases b8 with
  | false =>
    have HR := Lib.hid (show R = false by rw [hR]; first | done | rfl | simp)
    clear hR
    go_wp2_with (first | (go_at_call 32; refine (csmall.out _ (HW0.out.trans (K4.out.mono HW0.out.size))).mono ?_; rintro e v5 ⟨rfl, hb⟩; have K5 := Lib.hid (K4.out.trans (hb.mono K4.out.size)); clear hb; obtain ⟨q5_2, q5_3, q5_4, q5_5, q5_8, q5_9, q5_10, q5_11, q5_12, q5_13⟩ := hz6.out _ K5.out) | (go_at_call 31; refine (ctyp.out _ (HW0.out.trans (K5.out.mono HW0.out.size))).mono ?_; rintro e v6 ⟨rfl, hb⟩; have K6 := Lib.hid (K5.out.trans (hb.mono K5.out.size)); clear hb; obtain ⟨q6_2, q6_3, q6_4, q6_5, q6_8, q6_9, q6_10, q6_11, q6_12, q6_13⟩ := hz6.out _ K6.out) | (go_at_call 93; refine (crv.out _ (HW0.out.trans (K6.out.mono HW0.out.size))).mono ?_; rintro e v7 ⟨rfl, hb⟩; have K7 := Lib.hid (K6.out.trans (hb.mono K6.out.size)); clear hb; obtain ⟨q7_2, q7_3, q7_4, q7_5, q7_8, q7_9, q7_10, q7_11, q7_12, q7_13⟩ := hz6.out _ K7.out))
    go_ret
    exact ⟨by rw [HR.out]; first | done | rfl, HW0.out.trans (K7.out.mono HW0.out.size)⟩
  | true =>
  cases b9 with
  | false =>
    have HR := Lib.hid (show R = false by rw [hR]; first | done | rfl | simp)
    clear hR
    go_wp2_with (first | (go_at_call 32; refine (csmall.out _ (HW0.out.trans (K4.out.mono HW0.out.size))).mono ?_; rintro e v5 ⟨rfl, hb⟩; have K5 := Lib.hid (K4.out.trans (hb.mono K4.out.size)); clear hb; obtain ⟨q5_2, q5_3, q5_4, q5_5, q5_8, q5_9, q5_10, q5_11, q5_12, q5_13⟩ := hz6.out _ K5.out) | (go_at_call 31; refine (ctyp.out _ (HW0.out.trans (K5.out.mono HW0.out.size))).mono ?_; rintro e v6 ⟨rfl, hb⟩; have K6 := Lib.hid (K5.out.trans (hb.mono K5.out.size)); clear hb; obtain ⟨q6_2, q6_3, q6_4, q6_5, q6_8, q6_9, q6_10, q6_11, q6_12, q6_13⟩ := hz6.out _ K6.out) | (go_at_call 93; refine (crv.out _ (HW0.out.trans (K6.out.mono HW0.out.size))).mono ?_; rintro e v7 ⟨rfl, hb⟩; have K7 := Lib.hid (K6.out.trans (hb.mono K6.out.size)); clear hb; obtain ⟨q7_2, q7_3, q7_4, q7_5, q7_8, q7_9, q7_10, q7_11, q7_12, q7_13⟩ := hz6.out _ K7.out))
    go_ret
    exact ⟨by rw [HR.out]; first | done | rfl, HW0.out.trans (K7.out.mono HW0.out.size)⟩
  | true =>
  have HR := Lib.hid (show R = true by rw [hR]; first | done | rfl | simp)
  clear hR
  go_wp2_with (first | (go_at_call 32; refine (csmall.out _ (HW0.out.trans (K4.out.mono HW0.out.size))).mono ?_; rintro e v5 ⟨rfl, hb⟩; have K5 := Lib.hid (K4.out.trans (hb.mono K4.out.size)); clear hb; obtain ⟨q5_2, q5_3, q5_4, q5_5, q5_8, q5_9, q5_10, q5_11, q5_12, q5_13⟩ := hz6.out _ K5.out) | (go_at_call 31; refine (ctyp.out _ (HW0.out.trans (K5.out.mono HW0.out.size))).mono ?_; rintro e v6 ⟨rfl, hb⟩; have K6 := Lib.hid (K5.out.trans (hb.mono K5.out.size)); clear hb; obtain ⟨q6_2, q6_3, q6_4, q6_5, q6_8, q6_9, q6_10, q6_11, q6_12, q6_13⟩ := hz6.out _ K6.out) | (go_at_call 93; refine (crv.out _ (HW0.out.trans (K6.out.mono HW0.out.size))).mono ?_; rintro e v7 ⟨rfl, hb⟩; have K7 := Lib.hid (K6.out.trans (hb.mono K6.out.size)); clear hb; obtain ⟨q7_2, q7_3, q7_4, q7_5, q7_8, q7_9, q7_10, q7_11, q7_12, q7_13⟩ := hz6.out _ K7.out))
  go_ret
  exact ⟨by rw [HR.out]; first | done | rfl, HW0.out.trans (K7.out.mono HW0.out.size)⟩

set_option maxRecDepth 100000 in
set_option maxHeartbeats 64000000 in
theorem rValidStmt_1 (n d : Nat) (_ : d ≤ 60) (sp1 : Int) (sn1 : ByteArray) (k1 : Int) (nm1 : ByteArray) (h1 : Hd) (l1 : List Ty5) (pn1 : ByteArray) (ph1 : Hd) (pp1 : List ByteArray) (rk1 : Int) (rh1 : Hd) (ro1 : List Op5) (pnr1 : ByteArray) (phr1 : Hd) (ppr1 : List ByteArray) (rn1 rr1 : ByteArray) (ono1 : Bool) (oio1 : Int) (pno1 : ByteArray) (pho1 : Hd) (ppo1 : List ByteArray) (ht1 : Hd) (th1 : List St5) (he1 : Hd) (el1 : List St5) (ha1 : Hd) (ar1 : List Ar5) (w : World) (hA : StH (n + 1) w (.mk 1 sp1 sn1 (.mk k1 nm1 h1 l1) ⟨pn1, ph1, pp1⟩ ⟨rk1, rh1, ro1, ⟨pnr1, phr1, ppr1⟩, rn1, rr1⟩ ⟨ono1, oio1, ⟨pno1, pho1, ppo1⟩⟩ ht1 th1 he1 el1 ha1 ar1))
    (_ : ∀ (d : Nat), d ≤ 61 → ∀ (h : Hd) (l : List St5) (w : World), Row w h 21 l stC (StH n w) → Calls Tryz.prog 33 #[.slice h.oa l.length h.cap, .int .i64 d] w fun e w' => e = .returned (.bool (rowOk d l)) ∧ Below w.heap.size w w') :
    Calls Tryz.prog 66 #[stV (.mk 1 sp1 sn1 (.mk k1 nm1 h1 l1) ⟨pn1, ph1, pp1⟩ ⟨rk1, rh1, ro1, ⟨pnr1, phr1, ppr1⟩, rn1, rr1⟩ ⟨ono1, oio1, ⟨pno1, pho1, ppo1⟩⟩ ht1 th1 he1 el1 ha1 ar1), .int .i64 d] w fun e w' => e = .returned (.bool (stOk d (.mk 1 sp1 sn1 (.mk k1 nm1 h1 l1) ⟨pn1, ph1, pp1⟩ ⟨rk1, rh1, ro1, ⟨pnr1, phr1, ppr1⟩, rn1, rr1⟩ ⟨ono1, oio1, ⟨pno1, pho1, ppo1⟩⟩ ht1 th1 he1 el1 ha1 ar1))) ∧ Below w.heap.size w w' := by
  obtain ⟨-, A2, A3, A4, A5, A6, A7, A8⟩ := hA
  obtain ⟨R, hR⟩ : ∃ R, R = stOk d (.mk 1 sp1 sn1 (.mk k1 nm1 h1 l1) ⟨pn1, ph1, pp1⟩ ⟨rk1, rh1, ro1, ⟨pnr1, phr1, ppr1⟩, rn1, rr1⟩ ⟨ono1, oio1, ⟨pno1, pho1, ppo1⟩⟩ ht1 th1 he1 el1 ha1 ar1) := ⟨_, rfl⟩
  rw [← hR]
  replace hR : R = (((emptyN sn1 && tyEq (.mk k1 nm1 h1 l1) tyZ)) && (plOk ⟨pn1, ph1, pp1⟩) && (rvOk ⟨rk1, rh1, ro1, ⟨pnr1, phr1, ppr1⟩, rn1, rr1⟩) && (opEq ⟨ono1, oio1, ⟨pno1, pho1, ppo1⟩⟩ opZ) && (decide (th1.length = 0)) && (decide (el1.length = 0)) && (decide (ar1.length = 0))) := by
    rw [hR, stOk_1, stEq_Z]
    simp only [noPl_Z, rvEq_refl, Bool.and_true]
    ac_rfl
  have ch30 : ∀ W, Below w.heap.size w W → Calls Tryz.prog 30 #[tyV (.mk k1 nm1 h1 l1)] W fun e w' => e = .returned (.bool (tyEq (.mk k1 nm1 h1 l1) tyZ)) ∧ Below W.heap.size W w' := fun W _ => rnoTy_any _ W
  have ch90 : ∀ W, Below w.heap.size w W → Calls Tryz.prog 90 #[plV ⟨pn1, ph1, pp1⟩] W fun e w' => e = .returned (.bool (noPl ⟨pn1, ph1, pp1⟩)) ∧ Below W.heap.size W w' := fun W _ => rnoPlace_any _ W
  have ch91 : ∀ W, Below w.heap.size w W → Calls Tryz.prog 91 #[rvV ⟨rk1, rh1, ro1, ⟨pnr1, phr1, ppr1⟩, rn1, rr1⟩] W fun e w' => e = .returned (.bool (rvEq ⟨rk1, rh1, ro1, ⟨pnr1, phr1, ppr1⟩, rn1, rr1⟩ rvZ)) ∧ Below W.heap.size W w' := fun W _ => rnoRv_any _ W
  have ch92 : ∀ W, Below w.heap.size w W → Calls Tryz.prog 92 #[opV ⟨ono1, oio1, ⟨pno1, pho1, ppo1⟩⟩] W fun e w' => e = .returned (.bool (opEq ⟨ono1, oio1, ⟨pno1, pho1, ppo1⟩⟩ opZ)) ∧ Below W.heap.size W w' := fun W _ => rnoOper_any _ W
  have cpl : ∀ W, Below w.heap.size w W → Calls Tryz.prog 94 #[plV ⟨pn1, ph1, pp1⟩, .bool false] W fun e w' => e = .returned (.bool (plOk ⟨pn1, ph1, pp1⟩)) ∧ Below W.heap.size W w' := fun W hW => rvalidPlace_any _ W (A3.below hW)
  have crv : ∀ W, Below w.heap.size w W → Calls Tryz.prog 93 #[rvV ⟨rk1, rh1, ro1, ⟨pnr1, phr1, ppr1⟩, rn1, rr1⟩] W fun e w' => e = .returned (.bool (rvOk ⟨rk1, rh1, ro1, ⟨pnr1, phr1, ppr1⟩, rn1, rr1⟩)) ∧ Below W.heap.size W w' := fun W hW => rvalidRv_any _ W (A4.below hW)
  clear A2 A3 A4 A5 A6 A7 A8
  obtain ⟨b3, hb3⟩ : ∃ b, b = tyEq (.mk k1 nm1 h1 l1) tyZ := ⟨_, rfl⟩
  rw [← hb3] at ch30 hR
  clear hb3
  obtain ⟨p0, hp0⟩ : ∃ b, b = (emptyN sn1 && b3) := ⟨_, rfl⟩
  rw [← hp0] at hR
  obtain ⟨b4, hq⟩ : ∃ b, b = (noPl ⟨pn1, ph1, pp1⟩) := ⟨_, rfl⟩
  rw [← hq] at ch90
  clear hq
  obtain ⟨b5, hq⟩ : ∃ b, b = (rvEq ⟨rk1, rh1, ro1, ⟨pnr1, phr1, ppr1⟩, rn1, rr1⟩ rvZ) := ⟨_, rfl⟩
  rw [← hq] at ch91
  clear hq
  obtain ⟨b6, hq⟩ : ∃ b, b = (opEq ⟨ono1, oio1, ⟨pno1, pho1, ppo1⟩⟩ opZ) := ⟨_, rfl⟩
  rw [← hq] at ch92 hR
  clear hq
  have tb7 : ((th1.length : Int) == 0) = decide (th1.length = 0) := by rw [Bool.eq_iff_iff]; simp
  obtain ⟨b7, hq⟩ : ∃ b, b = decide (th1.length = 0) := ⟨_, rfl⟩
  rw [← hq] at tb7 hR
  clear hq
  have tb8 : ((el1.length : Int) == 0) = decide (el1.length = 0) := by rw [Bool.eq_iff_iff]; simp
  obtain ⟨b8, hq⟩ : ∃ b, b = decide (el1.length = 0) := ⟨_, rfl⟩
  rw [← hq] at tb8 hR
  clear hq
  have tb9 : ((ar1.length : Int) == 0) = decide (ar1.length = 0) := by rw [Bool.eq_iff_iff]; simp
  obtain ⟨b9, hq⟩ : ∃ b, b = decide (ar1.length = 0) := ⟨_, rfl⟩
  rw [← hq] at tb9 hR
  clear hq
  obtain ⟨x0, hq⟩ : ∃ b, b = (plOk ⟨pn1, ph1, pp1⟩) := ⟨_, rfl⟩
  rw [← hq] at cpl hR
  clear hq
  obtain ⟨x1, hq⟩ : ∃ b, b = (rvOk ⟨rk1, rh1, ro1, ⟨pnr1, phr1, ppr1⟩, rn1, rr1⟩) := ⟨_, rfl⟩
  rw [← hq] at crv hR
  clear hq
  simp only [tyV, tyC] at ch30
  replace ch30 := Lib.hid ch30
  simp only [plV, plC] at ch90
  replace ch90 := Lib.hid ch90
  simp only [rvV, rvC, plC, List.cons_append, List.nil_append] at ch91
  replace ch91 := Lib.hid ch91
  simp only [opV, opC, plC, List.cons_append, List.nil_append] at ch92
  replace ch92 := Lib.hid ch92
  simp only [plV, plC] at cpl
  replace cpl := Lib.hid cpl
  simp only [rvV, rvC, plC, List.cons_append, List.nil_append] at crv
  replace crv := Lib.hid crv
  simp only [stV]
  obtain ⟨c1, hc1'⟩ : ∃ c, c = stC (.mk 1 sp1 sn1 (.mk k1 nm1 h1 l1) ⟨pn1, ph1, pp1⟩ ⟨rk1, rh1, ro1, ⟨pnr1, phr1, ppr1⟩, rn1, rr1⟩ ⟨ono1, oio1, ⟨pno1, pho1, ppo1⟩⟩ ht1 th1 he1 el1 ha1 ar1) := ⟨_, rfl⟩
  rw [← hc1']
  have e0 : c1[0]? = some (.int .i64 1) := by rw [hc1']; rfl
  have e2 : c1[2]? = some (.string sn1) := by rw [hc1']; rfl
  have e3 : c1[3]? = some (.int .i64 k1) := by rw [hc1']; rfl
  have e4 : c1[4]? = some (.string nm1) := by rw [hc1']; rfl
  have e5 : c1[5]? = some (.slice h1.oa l1.length h1.cap) := by rw [hc1']; rfl
  have e6 : c1[6]? = some (.string pn1) := by rw [hc1']; rfl
  have e7 : c1[7]? = some (.slice ph1.oa pp1.length ph1.cap) := by rw [hc1']; rfl
  have e8 : c1[8]? = some (.int .i64 rk1) := by rw [hc1']; rfl
  have e9 : c1[9]? = some (.slice rh1.oa ro1.length rh1.cap) := by rw [hc1']; rfl
  have e10 : c1[10]? = some (.string pnr1) := by rw [hc1']; rfl
  have e11 : c1[11]? = some (.slice phr1.oa ppr1.length phr1.cap) := by rw [hc1']; rfl
  have e12 : c1[12]? = some (.string rn1) := by rw [hc1']; rfl
  have e13 : c1[13]? = some (.string rr1) := by rw [hc1']; rfl
  have e14 : c1[14]? = some (.bool ono1) := by rw [hc1']; rfl
  have e15 : c1[15]? = some (.int .i64 oio1) := by rw [hc1']; rfl
  have e16 : c1[16]? = some (.string pno1) := by rw [hc1']; rfl
  have e17 : c1[17]? = some (.slice pho1.oa ppo1.length pho1.cap) := by rw [hc1']; rfl
  have e18 : c1[18]? = some (.slice ht1.oa th1.length ht1.cap) := by rw [hc1']; rfl
  have e19 : c1[19]? = some (.slice he1.oa el1.length he1.cap) := by rw [hc1']; rfl
  have e20 : c1[20]? = some (.slice ha1.oa ar1.length ha1.cap) := by rw [hc1']; rfl
  clear hc1'
  obtain ⟨W0, hW0⟩ : ∃ W, W = w.alloc (.cells c1.toArray 52) := ⟨_, rfl⟩
  have HW0 : Below w.heap.size w W0 := by rw [hW0]; exact (Below.refl _ _).alloc (Nat.le_refl _) _
  replace HW0 := Lib.hid HW0
  have r0 : W0.rangeAt w.heap.size 0 c1 := by rw [hW0]; exact rangeAt_box w c1 52
  have hz1 := Lib.hid (show ∀ w', Below W0.heap.size W0 w' → (w'.cell? ⟨w.heap.size, 2, none⟩ = some (.string sn1) ∧ w'.cell? ⟨w.heap.size, 3, none⟩ = some (.int .i64 k1) ∧ w'.cell? ⟨w.heap.size, 4, none⟩ = some (.string nm1) ∧ w'.cell? ⟨w.heap.size, 5, none⟩ = some (.slice h1.oa l1.length h1.cap)) from fun w' hb => by
    have q : ∀ (n : Nat), 0 + n = n := Nat.zero_add
    exact ⟨rangeAt_below r0 hb 2 _ e2, rangeAt_below r0 hb 3 _ e3, rangeAt_below r0 hb 4 _ e4, rangeAt_below r0 hb 5 _ e5⟩)
  have hz2 := Lib.hid (show ∀ w', Below W0.heap.size W0 w' → (w'.cell? ⟨w.heap.size, 6, none⟩ = some (.string pn1) ∧ w'.cell? ⟨w.heap.size, 7, none⟩ = some (.slice ph1.oa pp1.length ph1.cap)) from fun w' hb => by
    have q : ∀ (n : Nat), 0 + n = n := Nat.zero_add
    exact ⟨rangeAt_below r0 hb 6 _ e6, rangeAt_below r0 hb 7 _ e7⟩)
  have hz3 := Lib.hid (show ∀ w', Below W0.heap.size W0 w' → (w'.cell? ⟨w.heap.size, 8, none⟩ = some (.int .i64 rk1) ∧ w'.cell? ⟨w.heap.size, 9, none⟩ = some (.slice rh1.oa ro1.length rh1.cap) ∧ w'.cell? ⟨w.heap.size, 10, none⟩ = some (.string pnr1) ∧ w'.cell? ⟨w.heap.size, 11, none⟩ = some (.slice phr1.oa ppr1.length phr1.cap) ∧ w'.cell? ⟨w.heap.size, 12, none⟩ = some (.string rn1) ∧ w'.cell? ⟨w.heap.size, 13, none⟩ = some (.string rr1)) from fun w' hb => by
    have q : ∀ (n : Nat), 0 + n = n := Nat.zero_add
    exact ⟨rangeAt_below r0 hb 8 _ e8, rangeAt_below r0 hb 9 _ e9, rangeAt_below r0 hb 10 _ e10, rangeAt_below r0 hb 11 _ e11, rangeAt_below r0 hb 12 _ e12, rangeAt_below r0 hb 13 _ e13⟩)
  have hz4 := Lib.hid (show ∀ w', Below W0.heap.size W0 w' → (w'.cell? ⟨w.heap.size, 14, none⟩ = some (.bool ono1) ∧ w'.cell? ⟨w.heap.size, 15, none⟩ = some (.int .i64 oio1) ∧ w'.cell? ⟨w.heap.size, 16, none⟩ = some (.string pno1) ∧ w'.cell? ⟨w.heap.size, 17, none⟩ = some (.slice pho1.oa ppo1.length pho1.cap)) from fun w' hb => by
    have q : ∀ (n : Nat), 0 + n = n := Nat.zero_add
    exact ⟨rangeAt_below r0 hb 14 _ e14, rangeAt_below r0 hb 15 _ e15, rangeAt_below r0 hb 16 _ e16, rangeAt_below r0 hb 17 _ e17⟩)
  have hz5 := Lib.hid (show ∀ w', Below W0.heap.size W0 w' → (w'.cell? ⟨w.heap.size, 0, none⟩ = some (.int .i64 1) ∧ w'.cell? ⟨w.heap.size, 18, none⟩ = some (.slice ht1.oa th1.length ht1.cap) ∧ w'.cell? ⟨w.heap.size, 19, none⟩ = some (.slice he1.oa el1.length he1.cap) ∧ w'.cell? ⟨w.heap.size, 20, none⟩ = some (.slice ha1.oa ar1.length ha1.cap)) from fun w' hb => by
    have q : ∀ (n : Nat), 0 + n = n := Nat.zero_add
    exact ⟨rangeAt_below r0 hb 0 _ e0, rangeAt_below r0 hb 18 _ e18, rangeAt_below r0 hb 19 _ e19, rangeAt_below r0 hb 20 _ e20⟩)
  have hz6 := Lib.hid (show ∀ w', Below W0.heap.size W0 w' → (w'.cell? ⟨w.heap.size, 6, none⟩ = some (.string pn1) ∧ w'.cell? ⟨w.heap.size, 7, none⟩ = some (.slice ph1.oa pp1.length ph1.cap) ∧ w'.cell? ⟨w.heap.size, 8, none⟩ = some (.int .i64 rk1) ∧ w'.cell? ⟨w.heap.size, 9, none⟩ = some (.slice rh1.oa ro1.length rh1.cap) ∧ w'.cell? ⟨w.heap.size, 10, none⟩ = some (.string pnr1) ∧ w'.cell? ⟨w.heap.size, 11, none⟩ = some (.slice phr1.oa ppr1.length phr1.cap) ∧ w'.cell? ⟨w.heap.size, 12, none⟩ = some (.string rn1) ∧ w'.cell? ⟨w.heap.size, 13, none⟩ = some (.string rr1)) from fun w' hb => by
    have q : ∀ (n : Nat), 0 + n = n := Nat.zero_add
    exact ⟨rangeAt_below r0 hb 6 _ e6, rangeAt_below r0 hb 7 _ e7, rangeAt_below r0 hb 8 _ e8, rangeAt_below r0 hb 9 _ e9, rangeAt_below r0 hb 10 _ e10, rangeAt_below r0 hb 11 _ e11, rangeAt_below r0 hb 12 _ e12, rangeAt_below r0 hb 13 _ e13⟩)
  clear r0 e0 e2 e3 e4 e5 e6 e7 e8 e9 e10 e11 e12 e13 e14 e15 e16 e17 e18 e19 e20
  have HR0 := Lib.hid hR
  have HP0 := Lib.hid hp0
  clear hR hp0
  go_enter Tryz.func66, Tryz.ntmps66
  go_upto_region 1 with fail
  rw [← hW0]
  clear hW0
  go_cut [5] from 14 to 21 (fun s wc => s = .bool p0 ∧ Below W0.heap.size W0 wc)
  case first =>
    obtain ⟨z2, z3, z4, z5⟩ := hz1.out _ (Below.refl _ _)
    cases he : emptyN sn1 with
    | false =>
      obtain ⟨e1, e2⟩ := empty_no he
      have HE := Lib.hid (show p0 = false by rw [HP0.out, he]; rfl)
      clear he
      go_wp2_with fail
      go_meet
      exact ⟨by rw [HE.out]; first | done | rfl, Below.refl _ _⟩
    | true =>
      have HE := Lib.hid (show p0 = b3 by rw [HP0.out, he]; rfl)
      obtain rfl := empty_of he
      clear he
      go_wp2_with (go_at_call 30; refine (ch30.out _ HW0.out).mono ?_; rintro e w1 ⟨rfl, hb1'⟩; have K1 := Lib.hid hb1'; clear hb1')
      go_meet
      exact ⟨by rw [HE.out]; first | done | rfl, K1.out⟩
  case rest =>
  obtain ⟨rfl, hk⟩ := hcut
  obtain ⟨v1, rfl⟩ : ∃ v : World, v = wc := ⟨_, rfl⟩
  have K1 := Lib.hid hk
  clear hk HP0
  obtain ⟨y6, y7⟩ := hz2.out _ K1.out
  go_upto_region 12 with (first
    | (go_at_call 90; refine (ch90.out _ (HW0.out.trans (K1.out.mono HW0.out.size))).mono ?_; rintro e v2 ⟨rfl, hb⟩; have K2 := Lib.hid (K1.out.trans (hb.mono K1.out.size)); clear hb; obtain ⟨y8, y9, y10, y11, y12, y13⟩ := hz3.out _ K2.out)
    | (go_at_call 91; refine (ch91.out _ (HW0.out.trans (K2.out.mono HW0.out.size))).mono ?_; rintro e v3 ⟨rfl, hb⟩; have K3 := Lib.hid (K2.out.trans (hb.mono K2.out.size)); clear hb; obtain ⟨y14, y15, y16, y17⟩ := hz4.out _ K3.out)
    | (go_at_call 92; refine (ch92.out _ (HW0.out.trans (K3.out.mono HW0.out.size))).mono ?_; rintro e v4 ⟨rfl, hb⟩; have K4 := Lib.hid (K3.out.trans (hb.mono K3.out.size)); clear hb; obtain ⟨y0, y18, y19, y20⟩ := hz5.out _ K4.out))
  obtain ⟨q4_6, q4_7, q4_8, q4_9, q4_10, q4_11, q4_12, q4_13⟩ := hz6.out _ K4.out
  have hR := HR0.out
  clear HR0 ch30 ch90 ch91 ch92 hz1 hz2 hz3 hz4 hz5
  cases p0 with
  | false =>
    have HR := Lib.hid (show R = false by rw [hR]; first | done | rfl | simp)
    clear hR
    go_wp2_with fail
    go_ret
    exact ⟨by rw [HR.out]; first | done | rfl, HW0.out.trans (K4.out.mono HW0.out.size)⟩
  | true =>
  cases x0 with
  | false =>
    have HR := Lib.hid (show R = false by rw [hR]; first | done | rfl | simp)
    clear hR
    go_wp2_with (first | (go_at_call 94; refine (cpl.out _ (HW0.out.trans (K4.out.mono HW0.out.size))).mono ?_; rintro e v5 ⟨rfl, hb⟩; have K5 := Lib.hid (K4.out.trans (hb.mono K4.out.size)); clear hb; obtain ⟨q5_6, q5_7, q5_8, q5_9, q5_10, q5_11, q5_12, q5_13⟩ := hz6.out _ K5.out))
    go_ret
    exact ⟨by rw [HR.out]; first | done | rfl, HW0.out.trans (K5.out.mono HW0.out.size)⟩
  | true =>
  cases x1 with
  | false =>
    have HR := Lib.hid (show R = false by rw [hR]; first | done | rfl | simp)
    clear hR
    go_wp2_with (first | (go_at_call 94; refine (cpl.out _ (HW0.out.trans (K4.out.mono HW0.out.size))).mono ?_; rintro e v5 ⟨rfl, hb⟩; have K5 := Lib.hid (K4.out.trans (hb.mono K4.out.size)); clear hb; obtain ⟨q5_6, q5_7, q5_8, q5_9, q5_10, q5_11, q5_12, q5_13⟩ := hz6.out _ K5.out) | (go_at_call 93; refine (crv.out _ (HW0.out.trans (K5.out.mono HW0.out.size))).mono ?_; rintro e v6 ⟨rfl, hb⟩; have K6 := Lib.hid (K5.out.trans (hb.mono K5.out.size)); clear hb; obtain ⟨q6_6, q6_7, q6_8, q6_9, q6_10, q6_11, q6_12, q6_13⟩ := hz6.out _ K6.out))
    go_ret
    exact ⟨by rw [HR.out]; first | done | rfl, HW0.out.trans (K6.out.mono HW0.out.size)⟩
  | true =>
  cases b6 with
  | false =>
    have HR := Lib.hid (show R = false by rw [hR]; first | done | rfl | simp)
    clear hR
    go_wp2_with (first | (go_at_call 94; refine (cpl.out _ (HW0.out.trans (K4.out.mono HW0.out.size))).mono ?_; rintro e v5 ⟨rfl, hb⟩; have K5 := Lib.hid (K4.out.trans (hb.mono K4.out.size)); clear hb; obtain ⟨q5_6, q5_7, q5_8, q5_9, q5_10, q5_11, q5_12, q5_13⟩ := hz6.out _ K5.out) | (go_at_call 93; refine (crv.out _ (HW0.out.trans (K5.out.mono HW0.out.size))).mono ?_; rintro e v6 ⟨rfl, hb⟩; have K6 := Lib.hid (K5.out.trans (hb.mono K5.out.size)); clear hb; obtain ⟨q6_6, q6_7, q6_8, q6_9, q6_10, q6_11, q6_12, q6_13⟩ := hz6.out _ K6.out))
    go_ret
    exact ⟨by rw [HR.out]; first | done | rfl, HW0.out.trans (K6.out.mono HW0.out.size)⟩
  | true =>
  cases b7 with
  | false =>
    have HR := Lib.hid (show R = false by rw [hR]; first | done | rfl | simp)
    clear hR
    go_wp2_with (first | (go_at_call 94; refine (cpl.out _ (HW0.out.trans (K4.out.mono HW0.out.size))).mono ?_; rintro e v5 ⟨rfl, hb⟩; have K5 := Lib.hid (K4.out.trans (hb.mono K4.out.size)); clear hb; obtain ⟨q5_6, q5_7, q5_8, q5_9, q5_10, q5_11, q5_12, q5_13⟩ := hz6.out _ K5.out) | (go_at_call 93; refine (crv.out _ (HW0.out.trans (K5.out.mono HW0.out.size))).mono ?_; rintro e v6 ⟨rfl, hb⟩; have K6 := Lib.hid (K5.out.trans (hb.mono K5.out.size)); clear hb; obtain ⟨q6_6, q6_7, q6_8, q6_9, q6_10, q6_11, q6_12, q6_13⟩ := hz6.out _ K6.out))
    go_ret
    exact ⟨by rw [HR.out]; first | done | rfl, HW0.out.trans (K6.out.mono HW0.out.size)⟩
  | true =>
  cases b8 with
  | false =>
    have HR := Lib.hid (show R = false by rw [hR]; first | done | rfl | simp)
    clear hR
    go_wp2_with (first | (go_at_call 94; refine (cpl.out _ (HW0.out.trans (K4.out.mono HW0.out.size))).mono ?_; rintro e v5 ⟨rfl, hb⟩; have K5 := Lib.hid (K4.out.trans (hb.mono K4.out.size)); clear hb; obtain ⟨q5_6, q5_7, q5_8, q5_9, q5_10, q5_11, q5_12, q5_13⟩ := hz6.out _ K5.out) | (go_at_call 93; refine (crv.out _ (HW0.out.trans (K5.out.mono HW0.out.size))).mono ?_; rintro e v6 ⟨rfl, hb⟩; have K6 := Lib.hid (K5.out.trans (hb.mono K5.out.size)); clear hb; obtain ⟨q6_6, q6_7, q6_8, q6_9, q6_10, q6_11, q6_12, q6_13⟩ := hz6.out _ K6.out))
    go_ret
    exact ⟨by rw [HR.out]; first | done | rfl, HW0.out.trans (K6.out.mono HW0.out.size)⟩
  | true =>
  cases b9 with
  | false =>
    have HR := Lib.hid (show R = false by rw [hR]; first | done | rfl | simp)
    clear hR
    go_wp2_with (first | (go_at_call 94; refine (cpl.out _ (HW0.out.trans (K4.out.mono HW0.out.size))).mono ?_; rintro e v5 ⟨rfl, hb⟩; have K5 := Lib.hid (K4.out.trans (hb.mono K4.out.size)); clear hb; obtain ⟨q5_6, q5_7, q5_8, q5_9, q5_10, q5_11, q5_12, q5_13⟩ := hz6.out _ K5.out) | (go_at_call 93; refine (crv.out _ (HW0.out.trans (K5.out.mono HW0.out.size))).mono ?_; rintro e v6 ⟨rfl, hb⟩; have K6 := Lib.hid (K5.out.trans (hb.mono K5.out.size)); clear hb; obtain ⟨q6_6, q6_7, q6_8, q6_9, q6_10, q6_11, q6_12, q6_13⟩ := hz6.out _ K6.out))
    go_ret
    exact ⟨by rw [HR.out]; first | done | rfl, HW0.out.trans (K6.out.mono HW0.out.size)⟩
  | true =>
  have HR := Lib.hid (show R = true by rw [hR]; first | done | rfl | simp)
  clear hR
  go_wp2_with (first | (go_at_call 94; refine (cpl.out _ (HW0.out.trans (K4.out.mono HW0.out.size))).mono ?_; rintro e v5 ⟨rfl, hb⟩; have K5 := Lib.hid (K4.out.trans (hb.mono K4.out.size)); clear hb; obtain ⟨q5_6, q5_7, q5_8, q5_9, q5_10, q5_11, q5_12, q5_13⟩ := hz6.out _ K5.out) | (go_at_call 93; refine (crv.out _ (HW0.out.trans (K5.out.mono HW0.out.size))).mono ?_; rintro e v6 ⟨rfl, hb⟩; have K6 := Lib.hid (K5.out.trans (hb.mono K5.out.size)); clear hb; obtain ⟨q6_6, q6_7, q6_8, q6_9, q6_10, q6_11, q6_12, q6_13⟩ := hz6.out _ K6.out))
  go_ret
  exact ⟨by rw [HR.out]; first | done | rfl, HW0.out.trans (K6.out.mono HW0.out.size)⟩

set_option maxRecDepth 100000 in
set_option maxHeartbeats 64000000 in
theorem rValidStmt_8 (n d : Nat) (_ : d ≤ 60) (sp1 : Int) (sn1 : ByteArray) (k1 : Int) (nm1 : ByteArray) (h1 : Hd) (l1 : List Ty5) (pn1 : ByteArray) (ph1 : Hd) (pp1 : List ByteArray) (rk1 : Int) (rh1 : Hd) (ro1 : List Op5) (pnr1 : ByteArray) (phr1 : Hd) (ppr1 : List ByteArray) (rn1 rr1 : ByteArray) (ono1 : Bool) (oio1 : Int) (pno1 : ByteArray) (pho1 : Hd) (ppo1 : List ByteArray) (ht1 : Hd) (th1 : List St5) (he1 : Hd) (el1 : List St5) (ha1 : Hd) (ar1 : List Ar5) (w : World) (hA : StH (n + 1) w (.mk 8 sp1 sn1 (.mk k1 nm1 h1 l1) ⟨pn1, ph1, pp1⟩ ⟨rk1, rh1, ro1, ⟨pnr1, phr1, ppr1⟩, rn1, rr1⟩ ⟨ono1, oio1, ⟨pno1, pho1, ppo1⟩⟩ ht1 th1 he1 el1 ha1 ar1))
    (_ : ∀ (d : Nat), d ≤ 61 → ∀ (h : Hd) (l : List St5) (w : World), Row w h 21 l stC (StH n w) → Calls Tryz.prog 33 #[.slice h.oa l.length h.cap, .int .i64 d] w fun e w' => e = .returned (.bool (rowOk d l)) ∧ Below w.heap.size w w') :
    Calls Tryz.prog 66 #[stV (.mk 8 sp1 sn1 (.mk k1 nm1 h1 l1) ⟨pn1, ph1, pp1⟩ ⟨rk1, rh1, ro1, ⟨pnr1, phr1, ppr1⟩, rn1, rr1⟩ ⟨ono1, oio1, ⟨pno1, pho1, ppo1⟩⟩ ht1 th1 he1 el1 ha1 ar1), .int .i64 d] w fun e w' => e = .returned (.bool (stOk d (.mk 8 sp1 sn1 (.mk k1 nm1 h1 l1) ⟨pn1, ph1, pp1⟩ ⟨rk1, rh1, ro1, ⟨pnr1, phr1, ppr1⟩, rn1, rr1⟩ ⟨ono1, oio1, ⟨pno1, pho1, ppo1⟩⟩ ht1 th1 he1 el1 ha1 ar1))) ∧ Below w.heap.size w w' := by
  obtain ⟨-, A2, A3, A4, A5, A6, A7, A8⟩ := hA
  obtain ⟨R, hR⟩ : ∃ R, R = stOk d (.mk 8 sp1 sn1 (.mk k1 nm1 h1 l1) ⟨pn1, ph1, pp1⟩ ⟨rk1, rh1, ro1, ⟨pnr1, phr1, ppr1⟩, rn1, rr1⟩ ⟨ono1, oio1, ⟨pno1, pho1, ppo1⟩⟩ ht1 th1 he1 el1 ha1 ar1) := ⟨_, rfl⟩
  rw [← hR]
  replace hR : R = (((emptyN sn1 && tyEq (.mk k1 nm1 h1 l1) tyZ)) && (aloneB ⟨pn1, ph1, pp1⟩) && (rvEq ⟨rk1, rh1, ro1, ⟨pnr1, phr1, ppr1⟩, rn1, rr1⟩ rvZ) && (opEq ⟨ono1, oio1, ⟨pno1, pho1, ppo1⟩⟩ opZ) && (decide (th1.length = 0)) && (decide (el1.length = 0)) && (decide (ar1.length = 0))) := by
    rw [hR, stOk_8, stEq_Z]
    simp only [noPl_Z, Bool.and_true]
    ac_rfl
  have ch30 : ∀ W, Below w.heap.size w W → Calls Tryz.prog 30 #[tyV (.mk k1 nm1 h1 l1)] W fun e w' => e = .returned (.bool (tyEq (.mk k1 nm1 h1 l1) tyZ)) ∧ Below W.heap.size W w' := fun W _ => rnoTy_any _ W
  have ch90 : ∀ W, Below w.heap.size w W → Calls Tryz.prog 90 #[plV ⟨pn1, ph1, pp1⟩] W fun e w' => e = .returned (.bool (noPl ⟨pn1, ph1, pp1⟩)) ∧ Below W.heap.size W w' := fun W _ => rnoPlace_any _ W
  have ch91 : ∀ W, Below w.heap.size w W → Calls Tryz.prog 91 #[rvV ⟨rk1, rh1, ro1, ⟨pnr1, phr1, ppr1⟩, rn1, rr1⟩] W fun e w' => e = .returned (.bool (rvEq ⟨rk1, rh1, ro1, ⟨pnr1, phr1, ppr1⟩, rn1, rr1⟩ rvZ)) ∧ Below W.heap.size W w' := fun W _ => rnoRv_any _ W
  have ch92 : ∀ W, Below w.heap.size w W → Calls Tryz.prog 92 #[opV ⟨ono1, oio1, ⟨pno1, pho1, ppo1⟩⟩] W fun e w' => e = .returned (.bool (opEq ⟨ono1, oio1, ⟨pno1, pho1, ppo1⟩⟩ opZ)) ∧ Below W.heap.size W w' := fun W _ => rnoOper_any _ W
  have calo : ∀ W, Below w.heap.size w W → Calls Tryz.prog 94 #[plV ⟨pn1, ph1, pp1⟩, .bool true] W fun e w' => e = .returned (.bool (aloneB ⟨pn1, ph1, pp1⟩)) ∧ Below W.heap.size W w' := fun W hW => rvalidPlace_bare _ W (A3.below hW)
  clear A2 A3 A4 A5 A6 A7 A8
  obtain ⟨b3, hb3⟩ : ∃ b, b = tyEq (.mk k1 nm1 h1 l1) tyZ := ⟨_, rfl⟩
  rw [← hb3] at ch30 hR
  clear hb3
  obtain ⟨p0, hp0⟩ : ∃ b, b = (emptyN sn1 && b3) := ⟨_, rfl⟩
  rw [← hp0] at hR
  obtain ⟨b4, hq⟩ : ∃ b, b = (noPl ⟨pn1, ph1, pp1⟩) := ⟨_, rfl⟩
  rw [← hq] at ch90
  clear hq
  obtain ⟨b5, hq⟩ : ∃ b, b = (rvEq ⟨rk1, rh1, ro1, ⟨pnr1, phr1, ppr1⟩, rn1, rr1⟩ rvZ) := ⟨_, rfl⟩
  rw [← hq] at ch91 hR
  clear hq
  obtain ⟨b6, hq⟩ : ∃ b, b = (opEq ⟨ono1, oio1, ⟨pno1, pho1, ppo1⟩⟩ opZ) := ⟨_, rfl⟩
  rw [← hq] at ch92 hR
  clear hq
  have tb7 : ((th1.length : Int) == 0) = decide (th1.length = 0) := by rw [Bool.eq_iff_iff]; simp
  obtain ⟨b7, hq⟩ : ∃ b, b = decide (th1.length = 0) := ⟨_, rfl⟩
  rw [← hq] at tb7 hR
  clear hq
  have tb8 : ((el1.length : Int) == 0) = decide (el1.length = 0) := by rw [Bool.eq_iff_iff]; simp
  obtain ⟨b8, hq⟩ : ∃ b, b = decide (el1.length = 0) := ⟨_, rfl⟩
  rw [← hq] at tb8 hR
  clear hq
  have tb9 : ((ar1.length : Int) == 0) = decide (ar1.length = 0) := by rw [Bool.eq_iff_iff]; simp
  obtain ⟨b9, hq⟩ : ∃ b, b = decide (ar1.length = 0) := ⟨_, rfl⟩
  rw [← hq] at tb9 hR
  clear hq
  obtain ⟨x0, hq⟩ : ∃ b, b = (aloneB ⟨pn1, ph1, pp1⟩) := ⟨_, rfl⟩
  rw [← hq] at calo hR
  clear hq
  simp only [tyV, tyC] at ch30
  replace ch30 := Lib.hid ch30
  simp only [plV, plC] at ch90
  replace ch90 := Lib.hid ch90
  simp only [rvV, rvC, plC, List.cons_append, List.nil_append] at ch91
  replace ch91 := Lib.hid ch91
  simp only [opV, opC, plC, List.cons_append, List.nil_append] at ch92
  replace ch92 := Lib.hid ch92
  simp only [plV, plC] at calo
  replace calo := Lib.hid calo
  simp only [stV]
  obtain ⟨c1, hc1'⟩ : ∃ c, c = stC (.mk 8 sp1 sn1 (.mk k1 nm1 h1 l1) ⟨pn1, ph1, pp1⟩ ⟨rk1, rh1, ro1, ⟨pnr1, phr1, ppr1⟩, rn1, rr1⟩ ⟨ono1, oio1, ⟨pno1, pho1, ppo1⟩⟩ ht1 th1 he1 el1 ha1 ar1) := ⟨_, rfl⟩
  rw [← hc1']
  have e0 : c1[0]? = some (.int .i64 8) := by rw [hc1']; rfl
  have e2 : c1[2]? = some (.string sn1) := by rw [hc1']; rfl
  have e3 : c1[3]? = some (.int .i64 k1) := by rw [hc1']; rfl
  have e4 : c1[4]? = some (.string nm1) := by rw [hc1']; rfl
  have e5 : c1[5]? = some (.slice h1.oa l1.length h1.cap) := by rw [hc1']; rfl
  have e6 : c1[6]? = some (.string pn1) := by rw [hc1']; rfl
  have e7 : c1[7]? = some (.slice ph1.oa pp1.length ph1.cap) := by rw [hc1']; rfl
  have e8 : c1[8]? = some (.int .i64 rk1) := by rw [hc1']; rfl
  have e9 : c1[9]? = some (.slice rh1.oa ro1.length rh1.cap) := by rw [hc1']; rfl
  have e10 : c1[10]? = some (.string pnr1) := by rw [hc1']; rfl
  have e11 : c1[11]? = some (.slice phr1.oa ppr1.length phr1.cap) := by rw [hc1']; rfl
  have e12 : c1[12]? = some (.string rn1) := by rw [hc1']; rfl
  have e13 : c1[13]? = some (.string rr1) := by rw [hc1']; rfl
  have e14 : c1[14]? = some (.bool ono1) := by rw [hc1']; rfl
  have e15 : c1[15]? = some (.int .i64 oio1) := by rw [hc1']; rfl
  have e16 : c1[16]? = some (.string pno1) := by rw [hc1']; rfl
  have e17 : c1[17]? = some (.slice pho1.oa ppo1.length pho1.cap) := by rw [hc1']; rfl
  have e18 : c1[18]? = some (.slice ht1.oa th1.length ht1.cap) := by rw [hc1']; rfl
  have e19 : c1[19]? = some (.slice he1.oa el1.length he1.cap) := by rw [hc1']; rfl
  have e20 : c1[20]? = some (.slice ha1.oa ar1.length ha1.cap) := by rw [hc1']; rfl
  clear hc1'
  obtain ⟨W0, hW0⟩ : ∃ W, W = w.alloc (.cells c1.toArray 52) := ⟨_, rfl⟩
  have HW0 : Below w.heap.size w W0 := by rw [hW0]; exact (Below.refl _ _).alloc (Nat.le_refl _) _
  replace HW0 := Lib.hid HW0
  have r0 : W0.rangeAt w.heap.size 0 c1 := by rw [hW0]; exact rangeAt_box w c1 52
  have hz1 := Lib.hid (show ∀ w', Below W0.heap.size W0 w' → (w'.cell? ⟨w.heap.size, 2, none⟩ = some (.string sn1) ∧ w'.cell? ⟨w.heap.size, 3, none⟩ = some (.int .i64 k1) ∧ w'.cell? ⟨w.heap.size, 4, none⟩ = some (.string nm1) ∧ w'.cell? ⟨w.heap.size, 5, none⟩ = some (.slice h1.oa l1.length h1.cap)) from fun w' hb => by
    have q : ∀ (n : Nat), 0 + n = n := Nat.zero_add
    exact ⟨rangeAt_below r0 hb 2 _ e2, rangeAt_below r0 hb 3 _ e3, rangeAt_below r0 hb 4 _ e4, rangeAt_below r0 hb 5 _ e5⟩)
  have hz2 := Lib.hid (show ∀ w', Below W0.heap.size W0 w' → (w'.cell? ⟨w.heap.size, 6, none⟩ = some (.string pn1) ∧ w'.cell? ⟨w.heap.size, 7, none⟩ = some (.slice ph1.oa pp1.length ph1.cap)) from fun w' hb => by
    have q : ∀ (n : Nat), 0 + n = n := Nat.zero_add
    exact ⟨rangeAt_below r0 hb 6 _ e6, rangeAt_below r0 hb 7 _ e7⟩)
  have hz3 := Lib.hid (show ∀ w', Below W0.heap.size W0 w' → (w'.cell? ⟨w.heap.size, 8, none⟩ = some (.int .i64 rk1) ∧ w'.cell? ⟨w.heap.size, 9, none⟩ = some (.slice rh1.oa ro1.length rh1.cap) ∧ w'.cell? ⟨w.heap.size, 10, none⟩ = some (.string pnr1) ∧ w'.cell? ⟨w.heap.size, 11, none⟩ = some (.slice phr1.oa ppr1.length phr1.cap) ∧ w'.cell? ⟨w.heap.size, 12, none⟩ = some (.string rn1) ∧ w'.cell? ⟨w.heap.size, 13, none⟩ = some (.string rr1)) from fun w' hb => by
    have q : ∀ (n : Nat), 0 + n = n := Nat.zero_add
    exact ⟨rangeAt_below r0 hb 8 _ e8, rangeAt_below r0 hb 9 _ e9, rangeAt_below r0 hb 10 _ e10, rangeAt_below r0 hb 11 _ e11, rangeAt_below r0 hb 12 _ e12, rangeAt_below r0 hb 13 _ e13⟩)
  have hz4 := Lib.hid (show ∀ w', Below W0.heap.size W0 w' → (w'.cell? ⟨w.heap.size, 14, none⟩ = some (.bool ono1) ∧ w'.cell? ⟨w.heap.size, 15, none⟩ = some (.int .i64 oio1) ∧ w'.cell? ⟨w.heap.size, 16, none⟩ = some (.string pno1) ∧ w'.cell? ⟨w.heap.size, 17, none⟩ = some (.slice pho1.oa ppo1.length pho1.cap)) from fun w' hb => by
    have q : ∀ (n : Nat), 0 + n = n := Nat.zero_add
    exact ⟨rangeAt_below r0 hb 14 _ e14, rangeAt_below r0 hb 15 _ e15, rangeAt_below r0 hb 16 _ e16, rangeAt_below r0 hb 17 _ e17⟩)
  have hz5 := Lib.hid (show ∀ w', Below W0.heap.size W0 w' → (w'.cell? ⟨w.heap.size, 0, none⟩ = some (.int .i64 8) ∧ w'.cell? ⟨w.heap.size, 18, none⟩ = some (.slice ht1.oa th1.length ht1.cap) ∧ w'.cell? ⟨w.heap.size, 19, none⟩ = some (.slice he1.oa el1.length he1.cap) ∧ w'.cell? ⟨w.heap.size, 20, none⟩ = some (.slice ha1.oa ar1.length ha1.cap)) from fun w' hb => by
    have q : ∀ (n : Nat), 0 + n = n := Nat.zero_add
    exact ⟨rangeAt_below r0 hb 0 _ e0, rangeAt_below r0 hb 18 _ e18, rangeAt_below r0 hb 19 _ e19, rangeAt_below r0 hb 20 _ e20⟩)
  have hz6 := Lib.hid (show ∀ w', Below W0.heap.size W0 w' → (w'.cell? ⟨w.heap.size, 6, none⟩ = some (.string pn1) ∧ w'.cell? ⟨w.heap.size, 7, none⟩ = some (.slice ph1.oa pp1.length ph1.cap)) from fun w' hb => by
    have q : ∀ (n : Nat), 0 + n = n := Nat.zero_add
    exact ⟨rangeAt_below r0 hb 6 _ e6, rangeAt_below r0 hb 7 _ e7⟩)
  clear r0 e0 e2 e3 e4 e5 e6 e7 e8 e9 e10 e11 e12 e13 e14 e15 e16 e17 e18 e19 e20
  have HR0 := Lib.hid hR
  have HP0 := Lib.hid hp0
  clear hR hp0
  go_enter Tryz.func66, Tryz.ntmps66
  go_upto_region 1 with fail
  rw [← hW0]
  clear hW0
  go_cut [5] from 14 to 21 (fun s wc => s = .bool p0 ∧ Below W0.heap.size W0 wc)
  case first =>
    obtain ⟨z2, z3, z4, z5⟩ := hz1.out _ (Below.refl _ _)
    cases he : emptyN sn1 with
    | false =>
      obtain ⟨e1, e2⟩ := empty_no he
      have HE := Lib.hid (show p0 = false by rw [HP0.out, he]; rfl)
      clear he
      go_wp2_with fail
      go_meet
      exact ⟨by rw [HE.out]; first | done | rfl, Below.refl _ _⟩
    | true =>
      have HE := Lib.hid (show p0 = b3 by rw [HP0.out, he]; rfl)
      obtain rfl := empty_of he
      clear he
      go_wp2_with (go_at_call 30; refine (ch30.out _ HW0.out).mono ?_; rintro e w1 ⟨rfl, hb1'⟩; have K1 := Lib.hid hb1'; clear hb1')
      go_meet
      exact ⟨by rw [HE.out]; first | done | rfl, K1.out⟩
  case rest =>
  obtain ⟨rfl, hk⟩ := hcut
  obtain ⟨v1, rfl⟩ : ∃ v : World, v = wc := ⟨_, rfl⟩
  have K1 := Lib.hid hk
  clear hk HP0
  obtain ⟨y6, y7⟩ := hz2.out _ K1.out
  go_upto_region 32 with (first
    | (go_at_call 90; refine (ch90.out _ (HW0.out.trans (K1.out.mono HW0.out.size))).mono ?_; rintro e v2 ⟨rfl, hb⟩; have K2 := Lib.hid (K1.out.trans (hb.mono K1.out.size)); clear hb; obtain ⟨y8, y9, y10, y11, y12, y13⟩ := hz3.out _ K2.out)
    | (go_at_call 91; refine (ch91.out _ (HW0.out.trans (K2.out.mono HW0.out.size))).mono ?_; rintro e v3 ⟨rfl, hb⟩; have K3 := Lib.hid (K2.out.trans (hb.mono K2.out.size)); clear hb; obtain ⟨y14, y15, y16, y17⟩ := hz4.out _ K3.out)
    | (go_at_call 92; refine (ch92.out _ (HW0.out.trans (K3.out.mono HW0.out.size))).mono ?_; rintro e v4 ⟨rfl, hb⟩; have K4 := Lib.hid (K3.out.trans (hb.mono K3.out.size)); clear hb; obtain ⟨y0, y18, y19, y20⟩ := hz5.out _ K4.out))
  obtain ⟨q4_6, q4_7⟩ := hz6.out _ K4.out
  have hR := HR0.out
  clear HR0 ch30 ch90 ch91 ch92 hz1 hz2 hz3 hz4 hz5
  cases p0 with
  | false =>
    have HR := Lib.hid (show R = false by rw [hR]; first | done | rfl | simp)
    clear hR
    go_wp2_with fail
    go_ret
    exact ⟨by rw [HR.out]; first | done | rfl, HW0.out.trans (K4.out.mono HW0.out.size)⟩
  | true =>
  cases x0 with
  | false =>
    have HR := Lib.hid (show R = false by rw [hR]; first | done | rfl | simp)
    clear hR
    go_wp2_with (first | (go_at_call 94; refine (calo.out _ (HW0.out.trans (K4.out.mono HW0.out.size))).mono ?_; rintro e v5 ⟨rfl, hb⟩; have K5 := Lib.hid (K4.out.trans (hb.mono K4.out.size)); clear hb; obtain ⟨q5_6, q5_7⟩ := hz6.out _ K5.out))
    go_ret
    exact ⟨by rw [HR.out]; first | done | rfl, HW0.out.trans (K5.out.mono HW0.out.size)⟩
  | true =>
  cases b5 with
  | false =>
    have HR := Lib.hid (show R = false by rw [hR]; first | done | rfl | simp)
    clear hR
    go_wp2_with (first | (go_at_call 94; refine (calo.out _ (HW0.out.trans (K4.out.mono HW0.out.size))).mono ?_; rintro e v5 ⟨rfl, hb⟩; have K5 := Lib.hid (K4.out.trans (hb.mono K4.out.size)); clear hb; obtain ⟨q5_6, q5_7⟩ := hz6.out _ K5.out))
    go_ret
    exact ⟨by rw [HR.out]; first | done | rfl, HW0.out.trans (K5.out.mono HW0.out.size)⟩
  | true =>
  cases b6 with
  | false =>
    have HR := Lib.hid (show R = false by rw [hR]; first | done | rfl | simp)
    clear hR
    go_wp2_with (first | (go_at_call 94; refine (calo.out _ (HW0.out.trans (K4.out.mono HW0.out.size))).mono ?_; rintro e v5 ⟨rfl, hb⟩; have K5 := Lib.hid (K4.out.trans (hb.mono K4.out.size)); clear hb; obtain ⟨q5_6, q5_7⟩ := hz6.out _ K5.out))
    go_ret
    exact ⟨by rw [HR.out]; first | done | rfl, HW0.out.trans (K5.out.mono HW0.out.size)⟩
  | true =>
  cases b7 with
  | false =>
    have HR := Lib.hid (show R = false by rw [hR]; first | done | rfl | simp)
    clear hR
    go_wp2_with (first | (go_at_call 94; refine (calo.out _ (HW0.out.trans (K4.out.mono HW0.out.size))).mono ?_; rintro e v5 ⟨rfl, hb⟩; have K5 := Lib.hid (K4.out.trans (hb.mono K4.out.size)); clear hb; obtain ⟨q5_6, q5_7⟩ := hz6.out _ K5.out))
    go_ret
    exact ⟨by rw [HR.out]; first | done | rfl, HW0.out.trans (K5.out.mono HW0.out.size)⟩
  | true =>
  cases b8 with
  | false =>
    have HR := Lib.hid (show R = false by rw [hR]; first | done | rfl | simp)
    clear hR
    go_wp2_with (first | (go_at_call 94; refine (calo.out _ (HW0.out.trans (K4.out.mono HW0.out.size))).mono ?_; rintro e v5 ⟨rfl, hb⟩; have K5 := Lib.hid (K4.out.trans (hb.mono K4.out.size)); clear hb; obtain ⟨q5_6, q5_7⟩ := hz6.out _ K5.out))
    go_ret
    exact ⟨by rw [HR.out]; first | done | rfl, HW0.out.trans (K5.out.mono HW0.out.size)⟩
  | true =>
  cases b9 with
  | false =>
    have HR := Lib.hid (show R = false by rw [hR]; first | done | rfl | simp)
    clear hR
    go_wp2_with (first | (go_at_call 94; refine (calo.out _ (HW0.out.trans (K4.out.mono HW0.out.size))).mono ?_; rintro e v5 ⟨rfl, hb⟩; have K5 := Lib.hid (K4.out.trans (hb.mono K4.out.size)); clear hb; obtain ⟨q5_6, q5_7⟩ := hz6.out _ K5.out))
    go_ret
    exact ⟨by rw [HR.out]; first | done | rfl, HW0.out.trans (K5.out.mono HW0.out.size)⟩
  | true =>
  have HR := Lib.hid (show R = true by rw [hR]; first | done | rfl | simp)
  clear hR
  go_wp2_with (first | (go_at_call 94; refine (calo.out _ (HW0.out.trans (K4.out.mono HW0.out.size))).mono ?_; rintro e v5 ⟨rfl, hb⟩; have K5 := Lib.hid (K4.out.trans (hb.mono K4.out.size)); clear hb; obtain ⟨q5_6, q5_7⟩ := hz6.out _ K5.out))
  go_ret
  exact ⟨by rw [HR.out]; first | done | rfl, HW0.out.trans (K5.out.mono HW0.out.size)⟩

set_option maxRecDepth 100000 in
set_option maxHeartbeats 64000000 in
theorem rValidStmt_2 (n d : Nat) (hd : d ≤ 60) (sp1 : Int) (sn1 : ByteArray) (k1 : Int) (nm1 : ByteArray) (h1 : Hd) (l1 : List Ty5) (pn1 : ByteArray) (ph1 : Hd) (pp1 : List ByteArray) (rk1 : Int) (rh1 : Hd) (ro1 : List Op5) (pnr1 : ByteArray) (phr1 : Hd) (ppr1 : List ByteArray) (rn1 rr1 : ByteArray) (ono1 : Bool) (oio1 : Int) (pno1 : ByteArray) (pho1 : Hd) (ppo1 : List ByteArray) (ht1 : Hd) (th1 : List St5) (he1 : Hd) (el1 : List St5) (ha1 : Hd) (ar1 : List Ar5) (w : World) (hA : StH (n + 1) w (.mk 2 sp1 sn1 (.mk k1 nm1 h1 l1) ⟨pn1, ph1, pp1⟩ ⟨rk1, rh1, ro1, ⟨pnr1, phr1, ppr1⟩, rn1, rr1⟩ ⟨ono1, oio1, ⟨pno1, pho1, ppo1⟩⟩ ht1 th1 he1 el1 ha1 ar1))
    (ihB : ∀ (d : Nat), d ≤ 61 → ∀ (h : Hd) (l : List St5) (w : World), Row w h 21 l stC (StH n w) → Calls Tryz.prog 33 #[.slice h.oa l.length h.cap, .int .i64 d] w fun e w' => e = .returned (.bool (rowOk d l)) ∧ Below w.heap.size w w') :
    Calls Tryz.prog 66 #[stV (.mk 2 sp1 sn1 (.mk k1 nm1 h1 l1) ⟨pn1, ph1, pp1⟩ ⟨rk1, rh1, ro1, ⟨pnr1, phr1, ppr1⟩, rn1, rr1⟩ ⟨ono1, oio1, ⟨pno1, pho1, ppo1⟩⟩ ht1 th1 he1 el1 ha1 ar1), .int .i64 d] w fun e w' => e = .returned (.bool (stOk d (.mk 2 sp1 sn1 (.mk k1 nm1 h1 l1) ⟨pn1, ph1, pp1⟩ ⟨rk1, rh1, ro1, ⟨pnr1, phr1, ppr1⟩, rn1, rr1⟩ ⟨ono1, oio1, ⟨pno1, pho1, ppo1⟩⟩ ht1 th1 he1 el1 ha1 ar1))) ∧ Below w.heap.size w w' := by
  obtain ⟨-, A2, A3, A4, A5, A6, A7, A8⟩ := hA
  obtain ⟨R, hR⟩ : ∃ R, R = stOk d (.mk 2 sp1 sn1 (.mk k1 nm1 h1 l1) ⟨pn1, ph1, pp1⟩ ⟨rk1, rh1, ro1, ⟨pnr1, phr1, ppr1⟩, rn1, rr1⟩ ⟨ono1, oio1, ⟨pno1, pho1, ppo1⟩⟩ ht1 th1 he1 el1 ha1 ar1) := ⟨_, rfl⟩
  rw [← hR]
  replace hR : R = (((emptyN sn1 && tyEq (.mk k1 nm1 h1 l1) tyZ)) && (noPl ⟨pn1, ph1, pp1⟩) && (rvEq ⟨rk1, rh1, ro1, ⟨pnr1, phr1, ppr1⟩, rn1, rr1⟩ rvZ) && (opOk ⟨ono1, oio1, ⟨pno1, pho1, ppo1⟩⟩) && (rowOk (d + 1) th1) && (rowOk (d + 1) el1) && (decide (ar1.length = 0))) := by
    rw [hR, stOk_2, stEq_Z]
    simp only [opEq_refl, List.length_nil, decide_true, Bool.and_true]
    ac_rfl
  have ch30 : ∀ W, Below w.heap.size w W → Calls Tryz.prog 30 #[tyV (.mk k1 nm1 h1 l1)] W fun e w' => e = .returned (.bool (tyEq (.mk k1 nm1 h1 l1) tyZ)) ∧ Below W.heap.size W w' := fun W _ => rnoTy_any _ W
  have ch90 : ∀ W, Below w.heap.size w W → Calls Tryz.prog 90 #[plV ⟨pn1, ph1, pp1⟩] W fun e w' => e = .returned (.bool (noPl ⟨pn1, ph1, pp1⟩)) ∧ Below W.heap.size W w' := fun W _ => rnoPlace_any _ W
  have ch91 : ∀ W, Below w.heap.size w W → Calls Tryz.prog 91 #[rvV ⟨rk1, rh1, ro1, ⟨pnr1, phr1, ppr1⟩, rn1, rr1⟩] W fun e w' => e = .returned (.bool (rvEq ⟨rk1, rh1, ro1, ⟨pnr1, phr1, ppr1⟩, rn1, rr1⟩ rvZ)) ∧ Below W.heap.size W w' := fun W _ => rnoRv_any _ W
  have ch92 : ∀ W, Below w.heap.size w W → Calls Tryz.prog 92 #[opV ⟨ono1, oio1, ⟨pno1, pho1, ppo1⟩⟩] W fun e w' => e = .returned (.bool (opEq ⟨ono1, oio1, ⟨pno1, pho1, ppo1⟩⟩ opZ)) ∧ Below W.heap.size W w' := fun W _ => rnoOper_any _ W
  have cop : ∀ W, Below w.heap.size w W → Calls Tryz.prog 95 #[opV ⟨ono1, oio1, ⟨pno1, pho1, ppo1⟩⟩] W fun e w' => e = .returned (.bool (opOk ⟨ono1, oio1, ⟨pno1, pho1, ppo1⟩⟩)) ∧ Below W.heap.size W w' := fun W hW => rvalidOper_any _ W (A5.below hW)
  have cth : ∀ W, Below w.heap.size w W → Calls Tryz.prog 33 #[.slice ht1.oa th1.length ht1.cap, .int .i64 ((d : Int) + 1)] W fun e w' => e = .returned (.bool (rowOk (d + 1) th1)) ∧ Below W.heap.size W w' := fun W hW => ihB (d + 1) (by omega) ht1 th1 W (Row.below A6 hW fun _ _ hx => StH.below hx hW)
  have cel : ∀ W, Below w.heap.size w W → Calls Tryz.prog 33 #[.slice he1.oa el1.length he1.cap, .int .i64 ((d : Int) + 1)] W fun e w' => e = .returned (.bool (rowOk (d + 1) el1)) ∧ Below W.heap.size W w' := fun W hW => ihB (d + 1) (by omega) he1 el1 W (Row.below A7 hW fun _ _ hx => StH.below hx hW)
  clear A2 A3 A4 A5 A6 A7 A8 ihB
  obtain ⟨b3, hb3⟩ : ∃ b, b = tyEq (.mk k1 nm1 h1 l1) tyZ := ⟨_, rfl⟩
  rw [← hb3] at ch30 hR
  clear hb3
  obtain ⟨p0, hp0⟩ : ∃ b, b = (emptyN sn1 && b3) := ⟨_, rfl⟩
  rw [← hp0] at hR
  obtain ⟨b4, hq⟩ : ∃ b, b = (noPl ⟨pn1, ph1, pp1⟩) := ⟨_, rfl⟩
  rw [← hq] at ch90 hR
  clear hq
  obtain ⟨b5, hq⟩ : ∃ b, b = (rvEq ⟨rk1, rh1, ro1, ⟨pnr1, phr1, ppr1⟩, rn1, rr1⟩ rvZ) := ⟨_, rfl⟩
  rw [← hq] at ch91 hR
  clear hq
  obtain ⟨b6, hq⟩ : ∃ b, b = (opEq ⟨ono1, oio1, ⟨pno1, pho1, ppo1⟩⟩ opZ) := ⟨_, rfl⟩
  rw [← hq] at ch92
  clear hq
  have tb7 : ((th1.length : Int) == 0) = decide (th1.length = 0) := by rw [Bool.eq_iff_iff]; simp
  obtain ⟨b7, hq⟩ : ∃ b, b = decide (th1.length = 0) := ⟨_, rfl⟩
  rw [← hq] at tb7
  clear hq
  have tb8 : ((el1.length : Int) == 0) = decide (el1.length = 0) := by rw [Bool.eq_iff_iff]; simp
  obtain ⟨b8, hq⟩ : ∃ b, b = decide (el1.length = 0) := ⟨_, rfl⟩
  rw [← hq] at tb8
  clear hq
  have tb9 : ((ar1.length : Int) == 0) = decide (ar1.length = 0) := by rw [Bool.eq_iff_iff]; simp
  obtain ⟨b9, hq⟩ : ∃ b, b = decide (ar1.length = 0) := ⟨_, rfl⟩
  rw [← hq] at tb9 hR
  clear hq
  obtain ⟨x0, hq⟩ : ∃ b, b = (opOk ⟨ono1, oio1, ⟨pno1, pho1, ppo1⟩⟩) := ⟨_, rfl⟩
  rw [← hq] at cop hR
  clear hq
  obtain ⟨x1, hq⟩ : ∃ b, b = (rowOk (d + 1) th1) := ⟨_, rfl⟩
  rw [← hq] at cth hR
  clear hq
  obtain ⟨x2, hq⟩ : ∃ b, b = (rowOk (d + 1) el1) := ⟨_, rfl⟩
  rw [← hq] at cel hR
  clear hq
  simp only [tyV, tyC] at ch30
  replace ch30 := Lib.hid ch30
  simp only [plV, plC] at ch90
  replace ch90 := Lib.hid ch90
  simp only [rvV, rvC, plC, List.cons_append, List.nil_append] at ch91
  replace ch91 := Lib.hid ch91
  simp only [opV, opC, plC, List.cons_append, List.nil_append] at ch92
  replace ch92 := Lib.hid ch92
  simp only [opV, opC, plC, List.cons_append, List.nil_append] at cop
  replace cop := Lib.hid cop
  replace cth := Lib.hid cth
  replace cel := Lib.hid cel
  simp only [stV]
  obtain ⟨c1, hc1'⟩ : ∃ c, c = stC (.mk 2 sp1 sn1 (.mk k1 nm1 h1 l1) ⟨pn1, ph1, pp1⟩ ⟨rk1, rh1, ro1, ⟨pnr1, phr1, ppr1⟩, rn1, rr1⟩ ⟨ono1, oio1, ⟨pno1, pho1, ppo1⟩⟩ ht1 th1 he1 el1 ha1 ar1) := ⟨_, rfl⟩
  rw [← hc1']
  have e0 : c1[0]? = some (.int .i64 2) := by rw [hc1']; rfl
  have e2 : c1[2]? = some (.string sn1) := by rw [hc1']; rfl
  have e3 : c1[3]? = some (.int .i64 k1) := by rw [hc1']; rfl
  have e4 : c1[4]? = some (.string nm1) := by rw [hc1']; rfl
  have e5 : c1[5]? = some (.slice h1.oa l1.length h1.cap) := by rw [hc1']; rfl
  have e6 : c1[6]? = some (.string pn1) := by rw [hc1']; rfl
  have e7 : c1[7]? = some (.slice ph1.oa pp1.length ph1.cap) := by rw [hc1']; rfl
  have e8 : c1[8]? = some (.int .i64 rk1) := by rw [hc1']; rfl
  have e9 : c1[9]? = some (.slice rh1.oa ro1.length rh1.cap) := by rw [hc1']; rfl
  have e10 : c1[10]? = some (.string pnr1) := by rw [hc1']; rfl
  have e11 : c1[11]? = some (.slice phr1.oa ppr1.length phr1.cap) := by rw [hc1']; rfl
  have e12 : c1[12]? = some (.string rn1) := by rw [hc1']; rfl
  have e13 : c1[13]? = some (.string rr1) := by rw [hc1']; rfl
  have e14 : c1[14]? = some (.bool ono1) := by rw [hc1']; rfl
  have e15 : c1[15]? = some (.int .i64 oio1) := by rw [hc1']; rfl
  have e16 : c1[16]? = some (.string pno1) := by rw [hc1']; rfl
  have e17 : c1[17]? = some (.slice pho1.oa ppo1.length pho1.cap) := by rw [hc1']; rfl
  have e18 : c1[18]? = some (.slice ht1.oa th1.length ht1.cap) := by rw [hc1']; rfl
  have e19 : c1[19]? = some (.slice he1.oa el1.length he1.cap) := by rw [hc1']; rfl
  have e20 : c1[20]? = some (.slice ha1.oa ar1.length ha1.cap) := by rw [hc1']; rfl
  clear hc1'
  obtain ⟨W0, hW0⟩ : ∃ W, W = w.alloc (.cells c1.toArray 52) := ⟨_, rfl⟩
  have HW0 : Below w.heap.size w W0 := by rw [hW0]; exact (Below.refl _ _).alloc (Nat.le_refl _) _
  replace HW0 := Lib.hid HW0
  have r0 : W0.rangeAt w.heap.size 0 c1 := by rw [hW0]; exact rangeAt_box w c1 52
  have hz1 := Lib.hid (show ∀ w', Below W0.heap.size W0 w' → (w'.cell? ⟨w.heap.size, 2, none⟩ = some (.string sn1) ∧ w'.cell? ⟨w.heap.size, 3, none⟩ = some (.int .i64 k1) ∧ w'.cell? ⟨w.heap.size, 4, none⟩ = some (.string nm1) ∧ w'.cell? ⟨w.heap.size, 5, none⟩ = some (.slice h1.oa l1.length h1.cap)) from fun w' hb => by
    have q : ∀ (n : Nat), 0 + n = n := Nat.zero_add
    exact ⟨rangeAt_below r0 hb 2 _ e2, rangeAt_below r0 hb 3 _ e3, rangeAt_below r0 hb 4 _ e4, rangeAt_below r0 hb 5 _ e5⟩)
  have hz2 := Lib.hid (show ∀ w', Below W0.heap.size W0 w' → (w'.cell? ⟨w.heap.size, 6, none⟩ = some (.string pn1) ∧ w'.cell? ⟨w.heap.size, 7, none⟩ = some (.slice ph1.oa pp1.length ph1.cap)) from fun w' hb => by
    have q : ∀ (n : Nat), 0 + n = n := Nat.zero_add
    exact ⟨rangeAt_below r0 hb 6 _ e6, rangeAt_below r0 hb 7 _ e7⟩)
  have hz3 := Lib.hid (show ∀ w', Below W0.heap.size W0 w' → (w'.cell? ⟨w.heap.size, 8, none⟩ = some (.int .i64 rk1) ∧ w'.cell? ⟨w.heap.size, 9, none⟩ = some (.slice rh1.oa ro1.length rh1.cap) ∧ w'.cell? ⟨w.heap.size, 10, none⟩ = some (.string pnr1) ∧ w'.cell? ⟨w.heap.size, 11, none⟩ = some (.slice phr1.oa ppr1.length phr1.cap) ∧ w'.cell? ⟨w.heap.size, 12, none⟩ = some (.string rn1) ∧ w'.cell? ⟨w.heap.size, 13, none⟩ = some (.string rr1)) from fun w' hb => by
    have q : ∀ (n : Nat), 0 + n = n := Nat.zero_add
    exact ⟨rangeAt_below r0 hb 8 _ e8, rangeAt_below r0 hb 9 _ e9, rangeAt_below r0 hb 10 _ e10, rangeAt_below r0 hb 11 _ e11, rangeAt_below r0 hb 12 _ e12, rangeAt_below r0 hb 13 _ e13⟩)
  have hz4 := Lib.hid (show ∀ w', Below W0.heap.size W0 w' → (w'.cell? ⟨w.heap.size, 14, none⟩ = some (.bool ono1) ∧ w'.cell? ⟨w.heap.size, 15, none⟩ = some (.int .i64 oio1) ∧ w'.cell? ⟨w.heap.size, 16, none⟩ = some (.string pno1) ∧ w'.cell? ⟨w.heap.size, 17, none⟩ = some (.slice pho1.oa ppo1.length pho1.cap)) from fun w' hb => by
    have q : ∀ (n : Nat), 0 + n = n := Nat.zero_add
    exact ⟨rangeAt_below r0 hb 14 _ e14, rangeAt_below r0 hb 15 _ e15, rangeAt_below r0 hb 16 _ e16, rangeAt_below r0 hb 17 _ e17⟩)
  have hz5 := Lib.hid (show ∀ w', Below W0.heap.size W0 w' → (w'.cell? ⟨w.heap.size, 0, none⟩ = some (.int .i64 2) ∧ w'.cell? ⟨w.heap.size, 18, none⟩ = some (.slice ht1.oa th1.length ht1.cap) ∧ w'.cell? ⟨w.heap.size, 19, none⟩ = some (.slice he1.oa el1.length he1.cap) ∧ w'.cell? ⟨w.heap.size, 20, none⟩ = some (.slice ha1.oa ar1.length ha1.cap)) from fun w' hb => by
    have q : ∀ (n : Nat), 0 + n = n := Nat.zero_add
    exact ⟨rangeAt_below r0 hb 0 _ e0, rangeAt_below r0 hb 18 _ e18, rangeAt_below r0 hb 19 _ e19, rangeAt_below r0 hb 20 _ e20⟩)
  have hz6 := Lib.hid (show ∀ w', Below W0.heap.size W0 w' → (w'.cell? ⟨w.heap.size, 14, none⟩ = some (.bool ono1) ∧ w'.cell? ⟨w.heap.size, 15, none⟩ = some (.int .i64 oio1) ∧ w'.cell? ⟨w.heap.size, 16, none⟩ = some (.string pno1) ∧ w'.cell? ⟨w.heap.size, 17, none⟩ = some (.slice pho1.oa ppo1.length pho1.cap) ∧ w'.cell? ⟨w.heap.size, 18, none⟩ = some (.slice ht1.oa th1.length ht1.cap) ∧ w'.cell? ⟨w.heap.size, 19, none⟩ = some (.slice he1.oa el1.length he1.cap)) from fun w' hb => by
    have q : ∀ (n : Nat), 0 + n = n := Nat.zero_add
    exact ⟨rangeAt_below r0 hb 14 _ e14, rangeAt_below r0 hb 15 _ e15, rangeAt_below r0 hb 16 _ e16, rangeAt_below r0 hb 17 _ e17, rangeAt_below r0 hb 18 _ e18, rangeAt_below r0 hb 19 _ e19⟩)
  clear r0 e0 e2 e3 e4 e5 e6 e7 e8 e9 e10 e11 e12 e13 e14 e15 e16 e17 e18 e19 e20
  have HR0 := Lib.hid hR
  have HP0 := Lib.hid hp0
  clear hR hp0
  go_enter Tryz.func66, Tryz.ntmps66
  go_upto_region 1 with fail
  rw [← hW0]
  clear hW0
  go_cut [5] from 14 to 21 (fun s wc => s = .bool p0 ∧ Below W0.heap.size W0 wc)
  case first =>
    obtain ⟨z2, z3, z4, z5⟩ := hz1.out _ (Below.refl _ _)
    cases he : emptyN sn1 with
    | false =>
      obtain ⟨e1, e2⟩ := empty_no he
      have HE := Lib.hid (show p0 = false by rw [HP0.out, he]; rfl)
      clear he
      go_wp2_with fail
      go_meet
      exact ⟨by rw [HE.out]; first | done | rfl, Below.refl _ _⟩
    | true =>
      have HE := Lib.hid (show p0 = b3 by rw [HP0.out, he]; rfl)
      obtain rfl := empty_of he
      clear he
      go_wp2_with (go_at_call 30; refine (ch30.out _ HW0.out).mono ?_; rintro e w1 ⟨rfl, hb1'⟩; have K1 := Lib.hid hb1'; clear hb1')
      go_meet
      exact ⟨by rw [HE.out]; first | done | rfl, K1.out⟩
  case rest =>
  obtain ⟨rfl, hk⟩ := hcut
  obtain ⟨v1, rfl⟩ : ∃ v : World, v = wc := ⟨_, rfl⟩
  have K1 := Lib.hid hk
  clear hk HP0
  obtain ⟨y6, y7⟩ := hz2.out _ K1.out
  go_upto_region 14 with (first
    | (go_at_call 90; refine (ch90.out _ (HW0.out.trans (K1.out.mono HW0.out.size))).mono ?_; rintro e v2 ⟨rfl, hb⟩; have K2 := Lib.hid (K1.out.trans (hb.mono K1.out.size)); clear hb; obtain ⟨y8, y9, y10, y11, y12, y13⟩ := hz3.out _ K2.out)
    | (go_at_call 91; refine (ch91.out _ (HW0.out.trans (K2.out.mono HW0.out.size))).mono ?_; rintro e v3 ⟨rfl, hb⟩; have K3 := Lib.hid (K2.out.trans (hb.mono K2.out.size)); clear hb; obtain ⟨y14, y15, y16, y17⟩ := hz4.out _ K3.out)
    | (go_at_call 92; refine (ch92.out _ (HW0.out.trans (K3.out.mono HW0.out.size))).mono ?_; rintro e v4 ⟨rfl, hb⟩; have K4 := Lib.hid (K3.out.trans (hb.mono K3.out.size)); clear hb; obtain ⟨y0, y18, y19, y20⟩ := hz5.out _ K4.out))
  obtain ⟨q4_14, q4_15, q4_16, q4_17, q4_18, q4_19⟩ := hz6.out _ K4.out
  have hR := HR0.out
  clear HR0 ch30 ch90 ch91 ch92 hz1 hz2 hz3 hz4 hz5
  cases p0 with
  | false =>
    have HR := Lib.hid (show R = false by rw [hR]; first | done | rfl | simp)
    clear hR
    go_wp2_with fail
    go_ret
    exact ⟨by rw [HR.out]; first | done | rfl, HW0.out.trans (K4.out.mono HW0.out.size)⟩
  | true =>
  cases b4 with
  | false =>
    have HR := Lib.hid (show R = false by rw [hR]; first | done | rfl | simp)
    clear hR
    go_wp2_with fail
    go_ret
    exact ⟨by rw [HR.out]; first | done | rfl, HW0.out.trans (K4.out.mono HW0.out.size)⟩
  | true =>
  cases b5 with
  | false =>
    have HR := Lib.hid (show R = false by rw [hR]; first | done | rfl | simp)
    clear hR
    go_wp2_with fail
    go_ret
    exact ⟨by rw [HR.out]; first | done | rfl, HW0.out.trans (K4.out.mono HW0.out.size)⟩
  | true =>
  cases x0 with
  | false =>
    have HR := Lib.hid (show R = false by rw [hR]; first | done | rfl | simp)
    clear hR
    go_wp2_with (first | (go_at_call 95; refine (cop.out _ (HW0.out.trans (K4.out.mono HW0.out.size))).mono ?_; rintro e v5 ⟨rfl, hb⟩; have K5 := Lib.hid (K4.out.trans (hb.mono K4.out.size)); clear hb; obtain ⟨q5_14, q5_15, q5_16, q5_17, q5_18, q5_19⟩ := hz6.out _ K5.out))
    go_ret
    exact ⟨by rw [HR.out]; first | done | rfl, HW0.out.trans (K5.out.mono HW0.out.size)⟩
  | true =>
  cases x1 with
  | false =>
    have HR := Lib.hid (show R = false by rw [hR]; first | done | rfl | simp)
    clear hR
    go_wp2_with (first | (go_at_call 95; refine (cop.out _ (HW0.out.trans (K4.out.mono HW0.out.size))).mono ?_; rintro e v5 ⟨rfl, hb⟩; have K5 := Lib.hid (K4.out.trans (hb.mono K4.out.size)); clear hb; obtain ⟨q5_14, q5_15, q5_16, q5_17, q5_18, q5_19⟩ := hz6.out _ K5.out) | (go_at_call_of 33 (Value.slice ht1.oa th1.length ht1.cap); refine (cth.out _ (HW0.out.trans (K5.out.mono HW0.out.size))).mono ?_; rintro e v6 ⟨rfl, hb⟩; have K6 := Lib.hid (K5.out.trans (hb.mono K5.out.size)); clear hb; obtain ⟨q6_14, q6_15, q6_16, q6_17, q6_18, q6_19⟩ := hz6.out _ K6.out))
    go_ret
    exact ⟨by rw [HR.out]; first | done | rfl, HW0.out.trans (K6.out.mono HW0.out.size)⟩
  | true =>
  cases x2 with
  | false =>
    have HR := Lib.hid (show R = false by rw [hR]; first | done | rfl | simp)
    clear hR
    go_wp2_with (first | (go_at_call 95; refine (cop.out _ (HW0.out.trans (K4.out.mono HW0.out.size))).mono ?_; rintro e v5 ⟨rfl, hb⟩; have K5 := Lib.hid (K4.out.trans (hb.mono K4.out.size)); clear hb; obtain ⟨q5_14, q5_15, q5_16, q5_17, q5_18, q5_19⟩ := hz6.out _ K5.out) | (go_at_call_of 33 (Value.slice ht1.oa th1.length ht1.cap); refine (cth.out _ (HW0.out.trans (K5.out.mono HW0.out.size))).mono ?_; rintro e v6 ⟨rfl, hb⟩; have K6 := Lib.hid (K5.out.trans (hb.mono K5.out.size)); clear hb; obtain ⟨q6_14, q6_15, q6_16, q6_17, q6_18, q6_19⟩ := hz6.out _ K6.out) | (go_at_call_of 33 (Value.slice he1.oa el1.length he1.cap); refine (cel.out _ (HW0.out.trans (K6.out.mono HW0.out.size))).mono ?_; rintro e v7 ⟨rfl, hb⟩; have K7 := Lib.hid (K6.out.trans (hb.mono K6.out.size)); clear hb; obtain ⟨q7_14, q7_15, q7_16, q7_17, q7_18, q7_19⟩ := hz6.out _ K7.out))
    go_ret
    exact ⟨by rw [HR.out]; first | done | rfl, HW0.out.trans (K7.out.mono HW0.out.size)⟩
  | true =>
  cases b9 with
  | false =>
    have HR := Lib.hid (show R = false by rw [hR]; first | done | rfl | simp)
    clear hR
    go_wp2_with (first | (go_at_call 95; refine (cop.out _ (HW0.out.trans (K4.out.mono HW0.out.size))).mono ?_; rintro e v5 ⟨rfl, hb⟩; have K5 := Lib.hid (K4.out.trans (hb.mono K4.out.size)); clear hb; obtain ⟨q5_14, q5_15, q5_16, q5_17, q5_18, q5_19⟩ := hz6.out _ K5.out) | (go_at_call_of 33 (Value.slice ht1.oa th1.length ht1.cap); refine (cth.out _ (HW0.out.trans (K5.out.mono HW0.out.size))).mono ?_; rintro e v6 ⟨rfl, hb⟩; have K6 := Lib.hid (K5.out.trans (hb.mono K5.out.size)); clear hb; obtain ⟨q6_14, q6_15, q6_16, q6_17, q6_18, q6_19⟩ := hz6.out _ K6.out) | (go_at_call_of 33 (Value.slice he1.oa el1.length he1.cap); refine (cel.out _ (HW0.out.trans (K6.out.mono HW0.out.size))).mono ?_; rintro e v7 ⟨rfl, hb⟩; have K7 := Lib.hid (K6.out.trans (hb.mono K6.out.size)); clear hb; obtain ⟨q7_14, q7_15, q7_16, q7_17, q7_18, q7_19⟩ := hz6.out _ K7.out))
    go_ret
    exact ⟨by rw [HR.out]; first | done | rfl, HW0.out.trans (K7.out.mono HW0.out.size)⟩
  | true =>
  have HR := Lib.hid (show R = true by rw [hR]; first | done | rfl | simp)
  clear hR
  go_wp2_with (first | (go_at_call 95; refine (cop.out _ (HW0.out.trans (K4.out.mono HW0.out.size))).mono ?_; rintro e v5 ⟨rfl, hb⟩; have K5 := Lib.hid (K4.out.trans (hb.mono K4.out.size)); clear hb; obtain ⟨q5_14, q5_15, q5_16, q5_17, q5_18, q5_19⟩ := hz6.out _ K5.out) | (go_at_call_of 33 (Value.slice ht1.oa th1.length ht1.cap); refine (cth.out _ (HW0.out.trans (K5.out.mono HW0.out.size))).mono ?_; rintro e v6 ⟨rfl, hb⟩; have K6 := Lib.hid (K5.out.trans (hb.mono K5.out.size)); clear hb; obtain ⟨q6_14, q6_15, q6_16, q6_17, q6_18, q6_19⟩ := hz6.out _ K6.out) | (go_at_call_of 33 (Value.slice he1.oa el1.length he1.cap); refine (cel.out _ (HW0.out.trans (K6.out.mono HW0.out.size))).mono ?_; rintro e v7 ⟨rfl, hb⟩; have K7 := Lib.hid (K6.out.trans (hb.mono K6.out.size)); clear hb; obtain ⟨q7_14, q7_15, q7_16, q7_17, q7_18, q7_19⟩ := hz6.out _ K7.out))
  go_ret
  exact ⟨by rw [HR.out]; first | done | rfl, HW0.out.trans (K7.out.mono HW0.out.size)⟩

set_option maxRecDepth 100000 in
set_option maxHeartbeats 64000000 in
theorem rValidStmt_3 (n d : Nat) (hd : d ≤ 60) (sp1 : Int) (sn1 : ByteArray) (k1 : Int) (nm1 : ByteArray) (h1 : Hd) (l1 : List Ty5) (pn1 : ByteArray) (ph1 : Hd) (pp1 : List ByteArray) (rk1 : Int) (rh1 : Hd) (ro1 : List Op5) (pnr1 : ByteArray) (phr1 : Hd) (ppr1 : List ByteArray) (rn1 rr1 : ByteArray) (ono1 : Bool) (oio1 : Int) (pno1 : ByteArray) (pho1 : Hd) (ppo1 : List ByteArray) (ht1 : Hd) (th1 : List St5) (he1 : Hd) (el1 : List St5) (ha1 : Hd) (ar1 : List Ar5) (w : World) (hA : StH (n + 1) w (.mk 3 sp1 sn1 (.mk k1 nm1 h1 l1) ⟨pn1, ph1, pp1⟩ ⟨rk1, rh1, ro1, ⟨pnr1, phr1, ppr1⟩, rn1, rr1⟩ ⟨ono1, oio1, ⟨pno1, pho1, ppo1⟩⟩ ht1 th1 he1 el1 ha1 ar1))
    (ihB : ∀ (d : Nat), d ≤ 61 → ∀ (h : Hd) (l : List St5) (w : World), Row w h 21 l stC (StH n w) → Calls Tryz.prog 33 #[.slice h.oa l.length h.cap, .int .i64 d] w fun e w' => e = .returned (.bool (rowOk d l)) ∧ Below w.heap.size w w') :
    Calls Tryz.prog 66 #[stV (.mk 3 sp1 sn1 (.mk k1 nm1 h1 l1) ⟨pn1, ph1, pp1⟩ ⟨rk1, rh1, ro1, ⟨pnr1, phr1, ppr1⟩, rn1, rr1⟩ ⟨ono1, oio1, ⟨pno1, pho1, ppo1⟩⟩ ht1 th1 he1 el1 ha1 ar1), .int .i64 d] w fun e w' => e = .returned (.bool (stOk d (.mk 3 sp1 sn1 (.mk k1 nm1 h1 l1) ⟨pn1, ph1, pp1⟩ ⟨rk1, rh1, ro1, ⟨pnr1, phr1, ppr1⟩, rn1, rr1⟩ ⟨ono1, oio1, ⟨pno1, pho1, ppo1⟩⟩ ht1 th1 he1 el1 ha1 ar1))) ∧ Below w.heap.size w w' := by
  obtain ⟨-, A2, A3, A4, A5, A6, A7, A8⟩ := hA
  obtain ⟨R, hR⟩ : ∃ R, R = stOk d (.mk 3 sp1 sn1 (.mk k1 nm1 h1 l1) ⟨pn1, ph1, pp1⟩ ⟨rk1, rh1, ro1, ⟨pnr1, phr1, ppr1⟩, rn1, rr1⟩ ⟨ono1, oio1, ⟨pno1, pho1, ppo1⟩⟩ ht1 th1 he1 el1 ha1 ar1) := ⟨_, rfl⟩
  rw [← hR]
  replace hR : R = (((emptyN sn1 && tyEq (.mk k1 nm1 h1 l1) tyZ)) && (noPl ⟨pn1, ph1, pp1⟩) && (rvEq ⟨rk1, rh1, ro1, ⟨pnr1, phr1, ppr1⟩, rn1, rr1⟩ rvZ) && (opOk ⟨ono1, oio1, ⟨pno1, pho1, ppo1⟩⟩) && (rowOk (d + 1) th1) && (decide (el1.length = 0)) && (decide (ar1.length = 0))) := by
    rw [hR, stOk_3, stEq_Z]
    simp only [opEq_refl, List.length_nil, decide_true, Bool.and_true]
    ac_rfl
  have ch30 : ∀ W, Below w.heap.size w W → Calls Tryz.prog 30 #[tyV (.mk k1 nm1 h1 l1)] W fun e w' => e = .returned (.bool (tyEq (.mk k1 nm1 h1 l1) tyZ)) ∧ Below W.heap.size W w' := fun W _ => rnoTy_any _ W
  have ch90 : ∀ W, Below w.heap.size w W → Calls Tryz.prog 90 #[plV ⟨pn1, ph1, pp1⟩] W fun e w' => e = .returned (.bool (noPl ⟨pn1, ph1, pp1⟩)) ∧ Below W.heap.size W w' := fun W _ => rnoPlace_any _ W
  have ch91 : ∀ W, Below w.heap.size w W → Calls Tryz.prog 91 #[rvV ⟨rk1, rh1, ro1, ⟨pnr1, phr1, ppr1⟩, rn1, rr1⟩] W fun e w' => e = .returned (.bool (rvEq ⟨rk1, rh1, ro1, ⟨pnr1, phr1, ppr1⟩, rn1, rr1⟩ rvZ)) ∧ Below W.heap.size W w' := fun W _ => rnoRv_any _ W
  have ch92 : ∀ W, Below w.heap.size w W → Calls Tryz.prog 92 #[opV ⟨ono1, oio1, ⟨pno1, pho1, ppo1⟩⟩] W fun e w' => e = .returned (.bool (opEq ⟨ono1, oio1, ⟨pno1, pho1, ppo1⟩⟩ opZ)) ∧ Below W.heap.size W w' := fun W _ => rnoOper_any _ W
  have cop : ∀ W, Below w.heap.size w W → Calls Tryz.prog 95 #[opV ⟨ono1, oio1, ⟨pno1, pho1, ppo1⟩⟩] W fun e w' => e = .returned (.bool (opOk ⟨ono1, oio1, ⟨pno1, pho1, ppo1⟩⟩)) ∧ Below W.heap.size W w' := fun W hW => rvalidOper_any _ W (A5.below hW)
  have cth : ∀ W, Below w.heap.size w W → Calls Tryz.prog 33 #[.slice ht1.oa th1.length ht1.cap, .int .i64 ((d : Int) + 1)] W fun e w' => e = .returned (.bool (rowOk (d + 1) th1)) ∧ Below W.heap.size W w' := fun W hW => ihB (d + 1) (by omega) ht1 th1 W (Row.below A6 hW fun _ _ hx => StH.below hx hW)
  clear A2 A3 A4 A5 A6 A7 A8 ihB
  obtain ⟨b3, hb3⟩ : ∃ b, b = tyEq (.mk k1 nm1 h1 l1) tyZ := ⟨_, rfl⟩
  rw [← hb3] at ch30 hR
  clear hb3
  obtain ⟨p0, hp0⟩ : ∃ b, b = (emptyN sn1 && b3) := ⟨_, rfl⟩
  rw [← hp0] at hR
  obtain ⟨b4, hq⟩ : ∃ b, b = (noPl ⟨pn1, ph1, pp1⟩) := ⟨_, rfl⟩
  rw [← hq] at ch90 hR
  clear hq
  obtain ⟨b5, hq⟩ : ∃ b, b = (rvEq ⟨rk1, rh1, ro1, ⟨pnr1, phr1, ppr1⟩, rn1, rr1⟩ rvZ) := ⟨_, rfl⟩
  rw [← hq] at ch91 hR
  clear hq
  obtain ⟨b6, hq⟩ : ∃ b, b = (opEq ⟨ono1, oio1, ⟨pno1, pho1, ppo1⟩⟩ opZ) := ⟨_, rfl⟩
  rw [← hq] at ch92
  clear hq
  have tb7 : ((th1.length : Int) == 0) = decide (th1.length = 0) := by rw [Bool.eq_iff_iff]; simp
  obtain ⟨b7, hq⟩ : ∃ b, b = decide (th1.length = 0) := ⟨_, rfl⟩
  rw [← hq] at tb7
  clear hq
  have tb8 : ((el1.length : Int) == 0) = decide (el1.length = 0) := by rw [Bool.eq_iff_iff]; simp
  obtain ⟨b8, hq⟩ : ∃ b, b = decide (el1.length = 0) := ⟨_, rfl⟩
  rw [← hq] at tb8 hR
  clear hq
  have tb9 : ((ar1.length : Int) == 0) = decide (ar1.length = 0) := by rw [Bool.eq_iff_iff]; simp
  obtain ⟨b9, hq⟩ : ∃ b, b = decide (ar1.length = 0) := ⟨_, rfl⟩
  rw [← hq] at tb9 hR
  clear hq
  obtain ⟨x0, hq⟩ : ∃ b, b = (opOk ⟨ono1, oio1, ⟨pno1, pho1, ppo1⟩⟩) := ⟨_, rfl⟩
  rw [← hq] at cop hR
  clear hq
  obtain ⟨x1, hq⟩ : ∃ b, b = (rowOk (d + 1) th1) := ⟨_, rfl⟩
  rw [← hq] at cth hR
  clear hq
  simp only [tyV, tyC] at ch30
  replace ch30 := Lib.hid ch30
  simp only [plV, plC] at ch90
  replace ch90 := Lib.hid ch90
  simp only [rvV, rvC, plC, List.cons_append, List.nil_append] at ch91
  replace ch91 := Lib.hid ch91
  simp only [opV, opC, plC, List.cons_append, List.nil_append] at ch92
  replace ch92 := Lib.hid ch92
  simp only [opV, opC, plC, List.cons_append, List.nil_append] at cop
  replace cop := Lib.hid cop
  replace cth := Lib.hid cth
  simp only [stV]
  obtain ⟨c1, hc1'⟩ : ∃ c, c = stC (.mk 3 sp1 sn1 (.mk k1 nm1 h1 l1) ⟨pn1, ph1, pp1⟩ ⟨rk1, rh1, ro1, ⟨pnr1, phr1, ppr1⟩, rn1, rr1⟩ ⟨ono1, oio1, ⟨pno1, pho1, ppo1⟩⟩ ht1 th1 he1 el1 ha1 ar1) := ⟨_, rfl⟩
  rw [← hc1']
  have e0 : c1[0]? = some (.int .i64 3) := by rw [hc1']; rfl
  have e2 : c1[2]? = some (.string sn1) := by rw [hc1']; rfl
  have e3 : c1[3]? = some (.int .i64 k1) := by rw [hc1']; rfl
  have e4 : c1[4]? = some (.string nm1) := by rw [hc1']; rfl
  have e5 : c1[5]? = some (.slice h1.oa l1.length h1.cap) := by rw [hc1']; rfl
  have e6 : c1[6]? = some (.string pn1) := by rw [hc1']; rfl
  have e7 : c1[7]? = some (.slice ph1.oa pp1.length ph1.cap) := by rw [hc1']; rfl
  have e8 : c1[8]? = some (.int .i64 rk1) := by rw [hc1']; rfl
  have e9 : c1[9]? = some (.slice rh1.oa ro1.length rh1.cap) := by rw [hc1']; rfl
  have e10 : c1[10]? = some (.string pnr1) := by rw [hc1']; rfl
  have e11 : c1[11]? = some (.slice phr1.oa ppr1.length phr1.cap) := by rw [hc1']; rfl
  have e12 : c1[12]? = some (.string rn1) := by rw [hc1']; rfl
  have e13 : c1[13]? = some (.string rr1) := by rw [hc1']; rfl
  have e14 : c1[14]? = some (.bool ono1) := by rw [hc1']; rfl
  have e15 : c1[15]? = some (.int .i64 oio1) := by rw [hc1']; rfl
  have e16 : c1[16]? = some (.string pno1) := by rw [hc1']; rfl
  have e17 : c1[17]? = some (.slice pho1.oa ppo1.length pho1.cap) := by rw [hc1']; rfl
  have e18 : c1[18]? = some (.slice ht1.oa th1.length ht1.cap) := by rw [hc1']; rfl
  have e19 : c1[19]? = some (.slice he1.oa el1.length he1.cap) := by rw [hc1']; rfl
  have e20 : c1[20]? = some (.slice ha1.oa ar1.length ha1.cap) := by rw [hc1']; rfl
  clear hc1'
  obtain ⟨W0, hW0⟩ : ∃ W, W = w.alloc (.cells c1.toArray 52) := ⟨_, rfl⟩
  have HW0 : Below w.heap.size w W0 := by rw [hW0]; exact (Below.refl _ _).alloc (Nat.le_refl _) _
  replace HW0 := Lib.hid HW0
  have r0 : W0.rangeAt w.heap.size 0 c1 := by rw [hW0]; exact rangeAt_box w c1 52
  have hz1 := Lib.hid (show ∀ w', Below W0.heap.size W0 w' → (w'.cell? ⟨w.heap.size, 2, none⟩ = some (.string sn1) ∧ w'.cell? ⟨w.heap.size, 3, none⟩ = some (.int .i64 k1) ∧ w'.cell? ⟨w.heap.size, 4, none⟩ = some (.string nm1) ∧ w'.cell? ⟨w.heap.size, 5, none⟩ = some (.slice h1.oa l1.length h1.cap)) from fun w' hb => by
    have q : ∀ (n : Nat), 0 + n = n := Nat.zero_add
    exact ⟨rangeAt_below r0 hb 2 _ e2, rangeAt_below r0 hb 3 _ e3, rangeAt_below r0 hb 4 _ e4, rangeAt_below r0 hb 5 _ e5⟩)
  have hz2 := Lib.hid (show ∀ w', Below W0.heap.size W0 w' → (w'.cell? ⟨w.heap.size, 6, none⟩ = some (.string pn1) ∧ w'.cell? ⟨w.heap.size, 7, none⟩ = some (.slice ph1.oa pp1.length ph1.cap)) from fun w' hb => by
    have q : ∀ (n : Nat), 0 + n = n := Nat.zero_add
    exact ⟨rangeAt_below r0 hb 6 _ e6, rangeAt_below r0 hb 7 _ e7⟩)
  have hz3 := Lib.hid (show ∀ w', Below W0.heap.size W0 w' → (w'.cell? ⟨w.heap.size, 8, none⟩ = some (.int .i64 rk1) ∧ w'.cell? ⟨w.heap.size, 9, none⟩ = some (.slice rh1.oa ro1.length rh1.cap) ∧ w'.cell? ⟨w.heap.size, 10, none⟩ = some (.string pnr1) ∧ w'.cell? ⟨w.heap.size, 11, none⟩ = some (.slice phr1.oa ppr1.length phr1.cap) ∧ w'.cell? ⟨w.heap.size, 12, none⟩ = some (.string rn1) ∧ w'.cell? ⟨w.heap.size, 13, none⟩ = some (.string rr1)) from fun w' hb => by
    have q : ∀ (n : Nat), 0 + n = n := Nat.zero_add
    exact ⟨rangeAt_below r0 hb 8 _ e8, rangeAt_below r0 hb 9 _ e9, rangeAt_below r0 hb 10 _ e10, rangeAt_below r0 hb 11 _ e11, rangeAt_below r0 hb 12 _ e12, rangeAt_below r0 hb 13 _ e13⟩)
  have hz4 := Lib.hid (show ∀ w', Below W0.heap.size W0 w' → (w'.cell? ⟨w.heap.size, 14, none⟩ = some (.bool ono1) ∧ w'.cell? ⟨w.heap.size, 15, none⟩ = some (.int .i64 oio1) ∧ w'.cell? ⟨w.heap.size, 16, none⟩ = some (.string pno1) ∧ w'.cell? ⟨w.heap.size, 17, none⟩ = some (.slice pho1.oa ppo1.length pho1.cap)) from fun w' hb => by
    have q : ∀ (n : Nat), 0 + n = n := Nat.zero_add
    exact ⟨rangeAt_below r0 hb 14 _ e14, rangeAt_below r0 hb 15 _ e15, rangeAt_below r0 hb 16 _ e16, rangeAt_below r0 hb 17 _ e17⟩)
  have hz5 := Lib.hid (show ∀ w', Below W0.heap.size W0 w' → (w'.cell? ⟨w.heap.size, 0, none⟩ = some (.int .i64 3) ∧ w'.cell? ⟨w.heap.size, 18, none⟩ = some (.slice ht1.oa th1.length ht1.cap) ∧ w'.cell? ⟨w.heap.size, 19, none⟩ = some (.slice he1.oa el1.length he1.cap) ∧ w'.cell? ⟨w.heap.size, 20, none⟩ = some (.slice ha1.oa ar1.length ha1.cap)) from fun w' hb => by
    have q : ∀ (n : Nat), 0 + n = n := Nat.zero_add
    exact ⟨rangeAt_below r0 hb 0 _ e0, rangeAt_below r0 hb 18 _ e18, rangeAt_below r0 hb 19 _ e19, rangeAt_below r0 hb 20 _ e20⟩)
  have hz6 := Lib.hid (show ∀ w', Below W0.heap.size W0 w' → (w'.cell? ⟨w.heap.size, 14, none⟩ = some (.bool ono1) ∧ w'.cell? ⟨w.heap.size, 15, none⟩ = some (.int .i64 oio1) ∧ w'.cell? ⟨w.heap.size, 16, none⟩ = some (.string pno1) ∧ w'.cell? ⟨w.heap.size, 17, none⟩ = some (.slice pho1.oa ppo1.length pho1.cap) ∧ w'.cell? ⟨w.heap.size, 18, none⟩ = some (.slice ht1.oa th1.length ht1.cap)) from fun w' hb => by
    have q : ∀ (n : Nat), 0 + n = n := Nat.zero_add
    exact ⟨rangeAt_below r0 hb 14 _ e14, rangeAt_below r0 hb 15 _ e15, rangeAt_below r0 hb 16 _ e16, rangeAt_below r0 hb 17 _ e17, rangeAt_below r0 hb 18 _ e18⟩)
  clear r0 e0 e2 e3 e4 e5 e6 e7 e8 e9 e10 e11 e12 e13 e14 e15 e16 e17 e18 e19 e20
  have HR0 := Lib.hid hR
  have HP0 := Lib.hid hp0
  clear hR hp0
  go_enter Tryz.func66, Tryz.ntmps66
  go_upto_region 1 with fail
  rw [← hW0]
  clear hW0
  go_cut [5] from 14 to 21 (fun s wc => s = .bool p0 ∧ Below W0.heap.size W0 wc)
  case first =>
    obtain ⟨z2, z3, z4, z5⟩ := hz1.out _ (Below.refl _ _)
    cases he : emptyN sn1 with
    | false =>
      obtain ⟨e1, e2⟩ := empty_no he
      have HE := Lib.hid (show p0 = false by rw [HP0.out, he]; rfl)
      clear he
      go_wp2_with fail
      go_meet
      exact ⟨by rw [HE.out]; first | done | rfl, Below.refl _ _⟩
    | true =>
      have HE := Lib.hid (show p0 = b3 by rw [HP0.out, he]; rfl)
      obtain rfl := empty_of he
      clear he
      go_wp2_with (go_at_call 30; refine (ch30.out _ HW0.out).mono ?_; rintro e w1 ⟨rfl, hb1'⟩; have K1 := Lib.hid hb1'; clear hb1')
      go_meet
      exact ⟨by rw [HE.out]; first | done | rfl, K1.out⟩
  case rest =>
  obtain ⟨rfl, hk⟩ := hcut
  obtain ⟨v1, rfl⟩ : ∃ v : World, v = wc := ⟨_, rfl⟩
  have K1 := Lib.hid hk
  clear hk HP0
  obtain ⟨y6, y7⟩ := hz2.out _ K1.out
  go_upto_region 16 with (first
    | (go_at_call 90; refine (ch90.out _ (HW0.out.trans (K1.out.mono HW0.out.size))).mono ?_; rintro e v2 ⟨rfl, hb⟩; have K2 := Lib.hid (K1.out.trans (hb.mono K1.out.size)); clear hb; obtain ⟨y8, y9, y10, y11, y12, y13⟩ := hz3.out _ K2.out)
    | (go_at_call 91; refine (ch91.out _ (HW0.out.trans (K2.out.mono HW0.out.size))).mono ?_; rintro e v3 ⟨rfl, hb⟩; have K3 := Lib.hid (K2.out.trans (hb.mono K2.out.size)); clear hb; obtain ⟨y14, y15, y16, y17⟩ := hz4.out _ K3.out)
    | (go_at_call 92; refine (ch92.out _ (HW0.out.trans (K3.out.mono HW0.out.size))).mono ?_; rintro e v4 ⟨rfl, hb⟩; have K4 := Lib.hid (K3.out.trans (hb.mono K3.out.size)); clear hb; obtain ⟨y0, y18, y19, y20⟩ := hz5.out _ K4.out))
  obtain ⟨q4_14, q4_15, q4_16, q4_17, q4_18⟩ := hz6.out _ K4.out
  have hR := HR0.out
  clear HR0 ch30 ch90 ch91 ch92 hz1 hz2 hz3 hz4 hz5
  cases p0 with
  | false =>
    have HR := Lib.hid (show R = false by rw [hR]; first | done | rfl | simp)
    clear hR
    go_wp2_with fail
    go_ret
    exact ⟨by rw [HR.out]; first | done | rfl, HW0.out.trans (K4.out.mono HW0.out.size)⟩
  | true =>
  cases b4 with
  | false =>
    have HR := Lib.hid (show R = false by rw [hR]; first | done | rfl | simp)
    clear hR
    go_wp2_with fail
    go_ret
    exact ⟨by rw [HR.out]; first | done | rfl, HW0.out.trans (K4.out.mono HW0.out.size)⟩
  | true =>
  cases b5 with
  | false =>
    have HR := Lib.hid (show R = false by rw [hR]; first | done | rfl | simp)
    clear hR
    go_wp2_with fail
    go_ret
    exact ⟨by rw [HR.out]; first | done | rfl, HW0.out.trans (K4.out.mono HW0.out.size)⟩
  | true =>
  cases x0 with
  | false =>
    have HR := Lib.hid (show R = false by rw [hR]; first | done | rfl | simp)
    clear hR
    go_wp2_with (first | (go_at_call 95; refine (cop.out _ (HW0.out.trans (K4.out.mono HW0.out.size))).mono ?_; rintro e v5 ⟨rfl, hb⟩; have K5 := Lib.hid (K4.out.trans (hb.mono K4.out.size)); clear hb; obtain ⟨q5_14, q5_15, q5_16, q5_17, q5_18⟩ := hz6.out _ K5.out))
    go_ret
    exact ⟨by rw [HR.out]; first | done | rfl, HW0.out.trans (K5.out.mono HW0.out.size)⟩
  | true =>
  cases x1 with
  | false =>
    have HR := Lib.hid (show R = false by rw [hR]; first | done | rfl | simp)
    clear hR
    go_wp2_with (first | (go_at_call 95; refine (cop.out _ (HW0.out.trans (K4.out.mono HW0.out.size))).mono ?_; rintro e v5 ⟨rfl, hb⟩; have K5 := Lib.hid (K4.out.trans (hb.mono K4.out.size)); clear hb; obtain ⟨q5_14, q5_15, q5_16, q5_17, q5_18⟩ := hz6.out _ K5.out) | (go_at_call_of 33 (Value.slice ht1.oa th1.length ht1.cap); refine (cth.out _ (HW0.out.trans (K5.out.mono HW0.out.size))).mono ?_; rintro e v6 ⟨rfl, hb⟩; have K6 := Lib.hid (K5.out.trans (hb.mono K5.out.size)); clear hb; obtain ⟨q6_14, q6_15, q6_16, q6_17, q6_18⟩ := hz6.out _ K6.out))
    go_ret
    exact ⟨by rw [HR.out]; first | done | rfl, HW0.out.trans (K6.out.mono HW0.out.size)⟩
  | true =>
  cases b8 with
  | false =>
    have HR := Lib.hid (show R = false by rw [hR]; first | done | rfl | simp)
    clear hR
    go_wp2_with (first | (go_at_call 95; refine (cop.out _ (HW0.out.trans (K4.out.mono HW0.out.size))).mono ?_; rintro e v5 ⟨rfl, hb⟩; have K5 := Lib.hid (K4.out.trans (hb.mono K4.out.size)); clear hb; obtain ⟨q5_14, q5_15, q5_16, q5_17, q5_18⟩ := hz6.out _ K5.out) | (go_at_call_of 33 (Value.slice ht1.oa th1.length ht1.cap); refine (cth.out _ (HW0.out.trans (K5.out.mono HW0.out.size))).mono ?_; rintro e v6 ⟨rfl, hb⟩; have K6 := Lib.hid (K5.out.trans (hb.mono K5.out.size)); clear hb; obtain ⟨q6_14, q6_15, q6_16, q6_17, q6_18⟩ := hz6.out _ K6.out))
    go_ret
    exact ⟨by rw [HR.out]; first | done | rfl, HW0.out.trans (K6.out.mono HW0.out.size)⟩
  | true =>
  cases b9 with
  | false =>
    have HR := Lib.hid (show R = false by rw [hR]; first | done | rfl | simp)
    clear hR
    go_wp2_with (first | (go_at_call 95; refine (cop.out _ (HW0.out.trans (K4.out.mono HW0.out.size))).mono ?_; rintro e v5 ⟨rfl, hb⟩; have K5 := Lib.hid (K4.out.trans (hb.mono K4.out.size)); clear hb; obtain ⟨q5_14, q5_15, q5_16, q5_17, q5_18⟩ := hz6.out _ K5.out) | (go_at_call_of 33 (Value.slice ht1.oa th1.length ht1.cap); refine (cth.out _ (HW0.out.trans (K5.out.mono HW0.out.size))).mono ?_; rintro e v6 ⟨rfl, hb⟩; have K6 := Lib.hid (K5.out.trans (hb.mono K5.out.size)); clear hb; obtain ⟨q6_14, q6_15, q6_16, q6_17, q6_18⟩ := hz6.out _ K6.out))
    go_ret
    exact ⟨by rw [HR.out]; first | done | rfl, HW0.out.trans (K6.out.mono HW0.out.size)⟩
  | true =>
  have HR := Lib.hid (show R = true by rw [hR]; first | done | rfl | simp)
  clear hR
  go_wp2_with (first | (go_at_call 95; refine (cop.out _ (HW0.out.trans (K4.out.mono HW0.out.size))).mono ?_; rintro e v5 ⟨rfl, hb⟩; have K5 := Lib.hid (K4.out.trans (hb.mono K4.out.size)); clear hb; obtain ⟨q5_14, q5_15, q5_16, q5_17, q5_18⟩ := hz6.out _ K5.out) | (go_at_call_of 33 (Value.slice ht1.oa th1.length ht1.cap); refine (cth.out _ (HW0.out.trans (K5.out.mono HW0.out.size))).mono ?_; rintro e v6 ⟨rfl, hb⟩; have K6 := Lib.hid (K5.out.trans (hb.mono K5.out.size)); clear hb; obtain ⟨q6_14, q6_15, q6_16, q6_17, q6_18⟩ := hz6.out _ K6.out))
  go_ret
  exact ⟨by rw [HR.out]; first | done | rfl, HW0.out.trans (K6.out.mono HW0.out.size)⟩

set_option maxRecDepth 100000 in
set_option maxHeartbeats 64000000 in
theorem rValidStmt_5 (n d : Nat) (_ : d ≤ 60) (sp1 : Int) (sn1 : ByteArray) (k1 : Int) (nm1 : ByteArray) (h1 : Hd) (l1 : List Ty5) (pn1 : ByteArray) (ph1 : Hd) (pp1 : List ByteArray) (rk1 : Int) (rh1 : Hd) (ro1 : List Op5) (pnr1 : ByteArray) (phr1 : Hd) (ppr1 : List ByteArray) (rn1 rr1 : ByteArray) (ono1 : Bool) (oio1 : Int) (pno1 : ByteArray) (pho1 : Hd) (ppo1 : List ByteArray) (ht1 : Hd) (th1 : List St5) (he1 : Hd) (el1 : List St5) (ha1 : Hd) (ar1 : List Ar5) (w : World) (hA : StH (n + 1) w (.mk 5 sp1 sn1 (.mk k1 nm1 h1 l1) ⟨pn1, ph1, pp1⟩ ⟨rk1, rh1, ro1, ⟨pnr1, phr1, ppr1⟩, rn1, rr1⟩ ⟨ono1, oio1, ⟨pno1, pho1, ppo1⟩⟩ ht1 th1 he1 el1 ha1 ar1))
    (_ : ∀ (d : Nat), d ≤ 61 → ∀ (h : Hd) (l : List St5) (w : World), Row w h 21 l stC (StH n w) → Calls Tryz.prog 33 #[.slice h.oa l.length h.cap, .int .i64 d] w fun e w' => e = .returned (.bool (rowOk d l)) ∧ Below w.heap.size w w') :
    Calls Tryz.prog 66 #[stV (.mk 5 sp1 sn1 (.mk k1 nm1 h1 l1) ⟨pn1, ph1, pp1⟩ ⟨rk1, rh1, ro1, ⟨pnr1, phr1, ppr1⟩, rn1, rr1⟩ ⟨ono1, oio1, ⟨pno1, pho1, ppo1⟩⟩ ht1 th1 he1 el1 ha1 ar1), .int .i64 d] w fun e w' => e = .returned (.bool (stOk d (.mk 5 sp1 sn1 (.mk k1 nm1 h1 l1) ⟨pn1, ph1, pp1⟩ ⟨rk1, rh1, ro1, ⟨pnr1, phr1, ppr1⟩, rn1, rr1⟩ ⟨ono1, oio1, ⟨pno1, pho1, ppo1⟩⟩ ht1 th1 he1 el1 ha1 ar1))) ∧ Below w.heap.size w w' := by
  obtain ⟨-, A2, A3, A4, A5, A6, A7, A8⟩ := hA
  obtain ⟨R, hR⟩ : ∃ R, R = stOk d (.mk 5 sp1 sn1 (.mk k1 nm1 h1 l1) ⟨pn1, ph1, pp1⟩ ⟨rk1, rh1, ro1, ⟨pnr1, phr1, ppr1⟩, rn1, rr1⟩ ⟨ono1, oio1, ⟨pno1, pho1, ppo1⟩⟩ ht1 th1 he1 el1 ha1 ar1) := ⟨_, rfl⟩
  rw [← hR]
  replace hR : R = (((emptyN sn1 && tyEq (.mk k1 nm1 h1 l1) tyZ)) && (noPl ⟨pn1, ph1, pp1⟩) && (rvEq ⟨rk1, rh1, ro1, ⟨pnr1, phr1, ppr1⟩, rn1, rr1⟩ rvZ) && (opOk ⟨ono1, oio1, ⟨pno1, pho1, ppo1⟩⟩) && (decide (th1.length = 0)) && (decide (el1.length = 0)) && (decide (ar1.length = 0))) := by
    rw [hR, stOk_5, stEq_Z]
    simp only [opEq_refl, Bool.and_true]
    ac_rfl
  have ch30 : ∀ W, Below w.heap.size w W → Calls Tryz.prog 30 #[tyV (.mk k1 nm1 h1 l1)] W fun e w' => e = .returned (.bool (tyEq (.mk k1 nm1 h1 l1) tyZ)) ∧ Below W.heap.size W w' := fun W _ => rnoTy_any _ W
  have ch90 : ∀ W, Below w.heap.size w W → Calls Tryz.prog 90 #[plV ⟨pn1, ph1, pp1⟩] W fun e w' => e = .returned (.bool (noPl ⟨pn1, ph1, pp1⟩)) ∧ Below W.heap.size W w' := fun W _ => rnoPlace_any _ W
  have ch91 : ∀ W, Below w.heap.size w W → Calls Tryz.prog 91 #[rvV ⟨rk1, rh1, ro1, ⟨pnr1, phr1, ppr1⟩, rn1, rr1⟩] W fun e w' => e = .returned (.bool (rvEq ⟨rk1, rh1, ro1, ⟨pnr1, phr1, ppr1⟩, rn1, rr1⟩ rvZ)) ∧ Below W.heap.size W w' := fun W _ => rnoRv_any _ W
  have ch92 : ∀ W, Below w.heap.size w W → Calls Tryz.prog 92 #[opV ⟨ono1, oio1, ⟨pno1, pho1, ppo1⟩⟩] W fun e w' => e = .returned (.bool (opEq ⟨ono1, oio1, ⟨pno1, pho1, ppo1⟩⟩ opZ)) ∧ Below W.heap.size W w' := fun W _ => rnoOper_any _ W
  have cop : ∀ W, Below w.heap.size w W → Calls Tryz.prog 95 #[opV ⟨ono1, oio1, ⟨pno1, pho1, ppo1⟩⟩] W fun e w' => e = .returned (.bool (opOk ⟨ono1, oio1, ⟨pno1, pho1, ppo1⟩⟩)) ∧ Below W.heap.size W w' := fun W hW => rvalidOper_any _ W (A5.below hW)
  clear A2 A3 A4 A5 A6 A7 A8
  obtain ⟨b3, hb3⟩ : ∃ b, b = tyEq (.mk k1 nm1 h1 l1) tyZ := ⟨_, rfl⟩
  rw [← hb3] at ch30 hR
  clear hb3
  obtain ⟨p0, hp0⟩ : ∃ b, b = (emptyN sn1 && b3) := ⟨_, rfl⟩
  rw [← hp0] at hR
  obtain ⟨b4, hq⟩ : ∃ b, b = (noPl ⟨pn1, ph1, pp1⟩) := ⟨_, rfl⟩
  rw [← hq] at ch90 hR
  clear hq
  obtain ⟨b5, hq⟩ : ∃ b, b = (rvEq ⟨rk1, rh1, ro1, ⟨pnr1, phr1, ppr1⟩, rn1, rr1⟩ rvZ) := ⟨_, rfl⟩
  rw [← hq] at ch91 hR
  clear hq
  obtain ⟨b6, hq⟩ : ∃ b, b = (opEq ⟨ono1, oio1, ⟨pno1, pho1, ppo1⟩⟩ opZ) := ⟨_, rfl⟩
  rw [← hq] at ch92
  clear hq
  have tb7 : ((th1.length : Int) == 0) = decide (th1.length = 0) := by rw [Bool.eq_iff_iff]; simp
  obtain ⟨b7, hq⟩ : ∃ b, b = decide (th1.length = 0) := ⟨_, rfl⟩
  rw [← hq] at tb7 hR
  clear hq
  have tb8 : ((el1.length : Int) == 0) = decide (el1.length = 0) := by rw [Bool.eq_iff_iff]; simp
  obtain ⟨b8, hq⟩ : ∃ b, b = decide (el1.length = 0) := ⟨_, rfl⟩
  rw [← hq] at tb8 hR
  clear hq
  have tb9 : ((ar1.length : Int) == 0) = decide (ar1.length = 0) := by rw [Bool.eq_iff_iff]; simp
  obtain ⟨b9, hq⟩ : ∃ b, b = decide (ar1.length = 0) := ⟨_, rfl⟩
  rw [← hq] at tb9 hR
  clear hq
  obtain ⟨x0, hq⟩ : ∃ b, b = (opOk ⟨ono1, oio1, ⟨pno1, pho1, ppo1⟩⟩) := ⟨_, rfl⟩
  rw [← hq] at cop hR
  clear hq
  simp only [tyV, tyC] at ch30
  replace ch30 := Lib.hid ch30
  simp only [plV, plC] at ch90
  replace ch90 := Lib.hid ch90
  simp only [rvV, rvC, plC, List.cons_append, List.nil_append] at ch91
  replace ch91 := Lib.hid ch91
  simp only [opV, opC, plC, List.cons_append, List.nil_append] at ch92
  replace ch92 := Lib.hid ch92
  simp only [opV, opC, plC, List.cons_append, List.nil_append] at cop
  replace cop := Lib.hid cop
  simp only [stV]
  obtain ⟨c1, hc1'⟩ : ∃ c, c = stC (.mk 5 sp1 sn1 (.mk k1 nm1 h1 l1) ⟨pn1, ph1, pp1⟩ ⟨rk1, rh1, ro1, ⟨pnr1, phr1, ppr1⟩, rn1, rr1⟩ ⟨ono1, oio1, ⟨pno1, pho1, ppo1⟩⟩ ht1 th1 he1 el1 ha1 ar1) := ⟨_, rfl⟩
  rw [← hc1']
  have e0 : c1[0]? = some (.int .i64 5) := by rw [hc1']; rfl
  have e2 : c1[2]? = some (.string sn1) := by rw [hc1']; rfl
  have e3 : c1[3]? = some (.int .i64 k1) := by rw [hc1']; rfl
  have e4 : c1[4]? = some (.string nm1) := by rw [hc1']; rfl
  have e5 : c1[5]? = some (.slice h1.oa l1.length h1.cap) := by rw [hc1']; rfl
  have e6 : c1[6]? = some (.string pn1) := by rw [hc1']; rfl
  have e7 : c1[7]? = some (.slice ph1.oa pp1.length ph1.cap) := by rw [hc1']; rfl
  have e8 : c1[8]? = some (.int .i64 rk1) := by rw [hc1']; rfl
  have e9 : c1[9]? = some (.slice rh1.oa ro1.length rh1.cap) := by rw [hc1']; rfl
  have e10 : c1[10]? = some (.string pnr1) := by rw [hc1']; rfl
  have e11 : c1[11]? = some (.slice phr1.oa ppr1.length phr1.cap) := by rw [hc1']; rfl
  have e12 : c1[12]? = some (.string rn1) := by rw [hc1']; rfl
  have e13 : c1[13]? = some (.string rr1) := by rw [hc1']; rfl
  have e14 : c1[14]? = some (.bool ono1) := by rw [hc1']; rfl
  have e15 : c1[15]? = some (.int .i64 oio1) := by rw [hc1']; rfl
  have e16 : c1[16]? = some (.string pno1) := by rw [hc1']; rfl
  have e17 : c1[17]? = some (.slice pho1.oa ppo1.length pho1.cap) := by rw [hc1']; rfl
  have e18 : c1[18]? = some (.slice ht1.oa th1.length ht1.cap) := by rw [hc1']; rfl
  have e19 : c1[19]? = some (.slice he1.oa el1.length he1.cap) := by rw [hc1']; rfl
  have e20 : c1[20]? = some (.slice ha1.oa ar1.length ha1.cap) := by rw [hc1']; rfl
  clear hc1'
  obtain ⟨W0, hW0⟩ : ∃ W, W = w.alloc (.cells c1.toArray 52) := ⟨_, rfl⟩
  have HW0 : Below w.heap.size w W0 := by rw [hW0]; exact (Below.refl _ _).alloc (Nat.le_refl _) _
  replace HW0 := Lib.hid HW0
  have r0 : W0.rangeAt w.heap.size 0 c1 := by rw [hW0]; exact rangeAt_box w c1 52
  have hz1 := Lib.hid (show ∀ w', Below W0.heap.size W0 w' → (w'.cell? ⟨w.heap.size, 2, none⟩ = some (.string sn1) ∧ w'.cell? ⟨w.heap.size, 3, none⟩ = some (.int .i64 k1) ∧ w'.cell? ⟨w.heap.size, 4, none⟩ = some (.string nm1) ∧ w'.cell? ⟨w.heap.size, 5, none⟩ = some (.slice h1.oa l1.length h1.cap)) from fun w' hb => by
    have q : ∀ (n : Nat), 0 + n = n := Nat.zero_add
    exact ⟨rangeAt_below r0 hb 2 _ e2, rangeAt_below r0 hb 3 _ e3, rangeAt_below r0 hb 4 _ e4, rangeAt_below r0 hb 5 _ e5⟩)
  have hz2 := Lib.hid (show ∀ w', Below W0.heap.size W0 w' → (w'.cell? ⟨w.heap.size, 6, none⟩ = some (.string pn1) ∧ w'.cell? ⟨w.heap.size, 7, none⟩ = some (.slice ph1.oa pp1.length ph1.cap)) from fun w' hb => by
    have q : ∀ (n : Nat), 0 + n = n := Nat.zero_add
    exact ⟨rangeAt_below r0 hb 6 _ e6, rangeAt_below r0 hb 7 _ e7⟩)
  have hz3 := Lib.hid (show ∀ w', Below W0.heap.size W0 w' → (w'.cell? ⟨w.heap.size, 8, none⟩ = some (.int .i64 rk1) ∧ w'.cell? ⟨w.heap.size, 9, none⟩ = some (.slice rh1.oa ro1.length rh1.cap) ∧ w'.cell? ⟨w.heap.size, 10, none⟩ = some (.string pnr1) ∧ w'.cell? ⟨w.heap.size, 11, none⟩ = some (.slice phr1.oa ppr1.length phr1.cap) ∧ w'.cell? ⟨w.heap.size, 12, none⟩ = some (.string rn1) ∧ w'.cell? ⟨w.heap.size, 13, none⟩ = some (.string rr1)) from fun w' hb => by
    have q : ∀ (n : Nat), 0 + n = n := Nat.zero_add
    exact ⟨rangeAt_below r0 hb 8 _ e8, rangeAt_below r0 hb 9 _ e9, rangeAt_below r0 hb 10 _ e10, rangeAt_below r0 hb 11 _ e11, rangeAt_below r0 hb 12 _ e12, rangeAt_below r0 hb 13 _ e13⟩)
  have hz4 := Lib.hid (show ∀ w', Below W0.heap.size W0 w' → (w'.cell? ⟨w.heap.size, 14, none⟩ = some (.bool ono1) ∧ w'.cell? ⟨w.heap.size, 15, none⟩ = some (.int .i64 oio1) ∧ w'.cell? ⟨w.heap.size, 16, none⟩ = some (.string pno1) ∧ w'.cell? ⟨w.heap.size, 17, none⟩ = some (.slice pho1.oa ppo1.length pho1.cap)) from fun w' hb => by
    have q : ∀ (n : Nat), 0 + n = n := Nat.zero_add
    exact ⟨rangeAt_below r0 hb 14 _ e14, rangeAt_below r0 hb 15 _ e15, rangeAt_below r0 hb 16 _ e16, rangeAt_below r0 hb 17 _ e17⟩)
  have hz5 := Lib.hid (show ∀ w', Below W0.heap.size W0 w' → (w'.cell? ⟨w.heap.size, 0, none⟩ = some (.int .i64 5) ∧ w'.cell? ⟨w.heap.size, 18, none⟩ = some (.slice ht1.oa th1.length ht1.cap) ∧ w'.cell? ⟨w.heap.size, 19, none⟩ = some (.slice he1.oa el1.length he1.cap) ∧ w'.cell? ⟨w.heap.size, 20, none⟩ = some (.slice ha1.oa ar1.length ha1.cap)) from fun w' hb => by
    have q : ∀ (n : Nat), 0 + n = n := Nat.zero_add
    exact ⟨rangeAt_below r0 hb 0 _ e0, rangeAt_below r0 hb 18 _ e18, rangeAt_below r0 hb 19 _ e19, rangeAt_below r0 hb 20 _ e20⟩)
  have hz6 := Lib.hid (show ∀ w', Below W0.heap.size W0 w' → (w'.cell? ⟨w.heap.size, 14, none⟩ = some (.bool ono1) ∧ w'.cell? ⟨w.heap.size, 15, none⟩ = some (.int .i64 oio1) ∧ w'.cell? ⟨w.heap.size, 16, none⟩ = some (.string pno1) ∧ w'.cell? ⟨w.heap.size, 17, none⟩ = some (.slice pho1.oa ppo1.length pho1.cap)) from fun w' hb => by
    have q : ∀ (n : Nat), 0 + n = n := Nat.zero_add
    exact ⟨rangeAt_below r0 hb 14 _ e14, rangeAt_below r0 hb 15 _ e15, rangeAt_below r0 hb 16 _ e16, rangeAt_below r0 hb 17 _ e17⟩)
  clear r0 e0 e2 e3 e4 e5 e6 e7 e8 e9 e10 e11 e12 e13 e14 e15 e16 e17 e18 e19 e20
  have HR0 := Lib.hid hR
  have HP0 := Lib.hid hp0
  clear hR hp0
  go_enter Tryz.func66, Tryz.ntmps66
  go_upto_region 1 with fail
  rw [← hW0]
  clear hW0
  go_cut [5] from 14 to 21 (fun s wc => s = .bool p0 ∧ Below W0.heap.size W0 wc)
  case first =>
    obtain ⟨z2, z3, z4, z5⟩ := hz1.out _ (Below.refl _ _)
    cases he : emptyN sn1 with
    | false =>
      obtain ⟨e1, e2⟩ := empty_no he
      have HE := Lib.hid (show p0 = false by rw [HP0.out, he]; rfl)
      clear he
      go_wp2_with fail
      go_meet
      exact ⟨by rw [HE.out]; first | done | rfl, Below.refl _ _⟩
    | true =>
      have HE := Lib.hid (show p0 = b3 by rw [HP0.out, he]; rfl)
      obtain rfl := empty_of he
      clear he
      go_wp2_with (go_at_call 30; refine (ch30.out _ HW0.out).mono ?_; rintro e w1 ⟨rfl, hb1'⟩; have K1 := Lib.hid hb1'; clear hb1')
      go_meet
      exact ⟨by rw [HE.out]; first | done | rfl, K1.out⟩
  case rest =>
  obtain ⟨rfl, hk⟩ := hcut
  obtain ⟨v1, rfl⟩ : ∃ v : World, v = wc := ⟨_, rfl⟩
  have K1 := Lib.hid hk
  clear hk HP0
  obtain ⟨y6, y7⟩ := hz2.out _ K1.out
  go_upto_region 30 with (first
    | (go_at_call 90; refine (ch90.out _ (HW0.out.trans (K1.out.mono HW0.out.size))).mono ?_; rintro e v2 ⟨rfl, hb⟩; have K2 := Lib.hid (K1.out.trans (hb.mono K1.out.size)); clear hb; obtain ⟨y8, y9, y10, y11, y12, y13⟩ := hz3.out _ K2.out)
    | (go_at_call 91; refine (ch91.out _ (HW0.out.trans (K2.out.mono HW0.out.size))).mono ?_; rintro e v3 ⟨rfl, hb⟩; have K3 := Lib.hid (K2.out.trans (hb.mono K2.out.size)); clear hb; obtain ⟨y14, y15, y16, y17⟩ := hz4.out _ K3.out)
    | (go_at_call 92; refine (ch92.out _ (HW0.out.trans (K3.out.mono HW0.out.size))).mono ?_; rintro e v4 ⟨rfl, hb⟩; have K4 := Lib.hid (K3.out.trans (hb.mono K3.out.size)); clear hb; obtain ⟨y0, y18, y19, y20⟩ := hz5.out _ K4.out))
  obtain ⟨q4_14, q4_15, q4_16, q4_17⟩ := hz6.out _ K4.out
  have hR := HR0.out
  clear HR0 ch30 ch90 ch91 ch92 hz1 hz2 hz3 hz4 hz5
  cases p0 with
  | false =>
    have HR := Lib.hid (show R = false by rw [hR]; first | done | rfl | simp)
    clear hR
    go_wp2_with fail
    go_ret
    exact ⟨by rw [HR.out]; first | done | rfl, HW0.out.trans (K4.out.mono HW0.out.size)⟩
  | true =>
  cases b4 with
  | false =>
    have HR := Lib.hid (show R = false by rw [hR]; first | done | rfl | simp)
    clear hR
    go_wp2_with fail
    go_ret
    exact ⟨by rw [HR.out]; first | done | rfl, HW0.out.trans (K4.out.mono HW0.out.size)⟩
  | true =>
  cases b5 with
  | false =>
    have HR := Lib.hid (show R = false by rw [hR]; first | done | rfl | simp)
    clear hR
    go_wp2_with fail
    go_ret
    exact ⟨by rw [HR.out]; first | done | rfl, HW0.out.trans (K4.out.mono HW0.out.size)⟩
  | true =>
  cases x0 with
  | false =>
    have HR := Lib.hid (show R = false by rw [hR]; first | done | rfl | simp)
    clear hR
    go_wp2_with (first | (go_at_call 95; refine (cop.out _ (HW0.out.trans (K4.out.mono HW0.out.size))).mono ?_; rintro e v5 ⟨rfl, hb⟩; have K5 := Lib.hid (K4.out.trans (hb.mono K4.out.size)); clear hb; obtain ⟨q5_14, q5_15, q5_16, q5_17⟩ := hz6.out _ K5.out))
    go_ret
    exact ⟨by rw [HR.out]; first | done | rfl, HW0.out.trans (K5.out.mono HW0.out.size)⟩
  | true =>
  cases b7 with
  | false =>
    have HR := Lib.hid (show R = false by rw [hR]; first | done | rfl | simp)
    clear hR
    go_wp2_with (first | (go_at_call 95; refine (cop.out _ (HW0.out.trans (K4.out.mono HW0.out.size))).mono ?_; rintro e v5 ⟨rfl, hb⟩; have K5 := Lib.hid (K4.out.trans (hb.mono K4.out.size)); clear hb; obtain ⟨q5_14, q5_15, q5_16, q5_17⟩ := hz6.out _ K5.out))
    go_ret
    exact ⟨by rw [HR.out]; first | done | rfl, HW0.out.trans (K5.out.mono HW0.out.size)⟩
  | true =>
  cases b8 with
  | false =>
    have HR := Lib.hid (show R = false by rw [hR]; first | done | rfl | simp)
    clear hR
    go_wp2_with (first | (go_at_call 95; refine (cop.out _ (HW0.out.trans (K4.out.mono HW0.out.size))).mono ?_; rintro e v5 ⟨rfl, hb⟩; have K5 := Lib.hid (K4.out.trans (hb.mono K4.out.size)); clear hb; obtain ⟨q5_14, q5_15, q5_16, q5_17⟩ := hz6.out _ K5.out))
    go_ret
    exact ⟨by rw [HR.out]; first | done | rfl, HW0.out.trans (K5.out.mono HW0.out.size)⟩
  | true =>
  cases b9 with
  | false =>
    have HR := Lib.hid (show R = false by rw [hR]; first | done | rfl | simp)
    clear hR
    go_wp2_with (first | (go_at_call 95; refine (cop.out _ (HW0.out.trans (K4.out.mono HW0.out.size))).mono ?_; rintro e v5 ⟨rfl, hb⟩; have K5 := Lib.hid (K4.out.trans (hb.mono K4.out.size)); clear hb; obtain ⟨q5_14, q5_15, q5_16, q5_17⟩ := hz6.out _ K5.out))
    go_ret
    exact ⟨by rw [HR.out]; first | done | rfl, HW0.out.trans (K5.out.mono HW0.out.size)⟩
  | true =>
  have HR := Lib.hid (show R = true by rw [hR]; first | done | rfl | simp)
  clear hR
  go_wp2_with (first | (go_at_call 95; refine (cop.out _ (HW0.out.trans (K4.out.mono HW0.out.size))).mono ?_; rintro e v5 ⟨rfl, hb⟩; have K5 := Lib.hid (K4.out.trans (hb.mono K4.out.size)); clear hb; obtain ⟨q5_14, q5_15, q5_16, q5_17⟩ := hz6.out _ K5.out))
  go_ret
  exact ⟨by rw [HR.out]; first | done | rfl, HW0.out.trans (K5.out.mono HW0.out.size)⟩

set_option maxRecDepth 100000 in
set_option maxHeartbeats 64000000 in
theorem rValidStmt_6 (n d : Nat) (_ : d ≤ 60) (sp1 : Int) (sn1 : ByteArray) (k1 : Int) (nm1 : ByteArray) (h1 : Hd) (l1 : List Ty5) (pn1 : ByteArray) (ph1 : Hd) (pp1 : List ByteArray) (rk1 : Int) (rh1 : Hd) (ro1 : List Op5) (pnr1 : ByteArray) (phr1 : Hd) (ppr1 : List ByteArray) (rn1 rr1 : ByteArray) (ono1 : Bool) (oio1 : Int) (pno1 : ByteArray) (pho1 : Hd) (ppo1 : List ByteArray) (ht1 : Hd) (th1 : List St5) (he1 : Hd) (el1 : List St5) (ha1 : Hd) (ar1 : List Ar5) (w : World) (hA : StH (n + 1) w (.mk 6 sp1 sn1 (.mk k1 nm1 h1 l1) ⟨pn1, ph1, pp1⟩ ⟨rk1, rh1, ro1, ⟨pnr1, phr1, ppr1⟩, rn1, rr1⟩ ⟨ono1, oio1, ⟨pno1, pho1, ppo1⟩⟩ ht1 th1 he1 el1 ha1 ar1))
    (_ : ∀ (d : Nat), d ≤ 61 → ∀ (h : Hd) (l : List St5) (w : World), Row w h 21 l stC (StH n w) → Calls Tryz.prog 33 #[.slice h.oa l.length h.cap, .int .i64 d] w fun e w' => e = .returned (.bool (rowOk d l)) ∧ Below w.heap.size w w') :
    Calls Tryz.prog 66 #[stV (.mk 6 sp1 sn1 (.mk k1 nm1 h1 l1) ⟨pn1, ph1, pp1⟩ ⟨rk1, rh1, ro1, ⟨pnr1, phr1, ppr1⟩, rn1, rr1⟩ ⟨ono1, oio1, ⟨pno1, pho1, ppo1⟩⟩ ht1 th1 he1 el1 ha1 ar1), .int .i64 d] w fun e w' => e = .returned (.bool (stOk d (.mk 6 sp1 sn1 (.mk k1 nm1 h1 l1) ⟨pn1, ph1, pp1⟩ ⟨rk1, rh1, ro1, ⟨pnr1, phr1, ppr1⟩, rn1, rr1⟩ ⟨ono1, oio1, ⟨pno1, pho1, ppo1⟩⟩ ht1 th1 he1 el1 ha1 ar1))) ∧ Below w.heap.size w w' := by
  obtain ⟨-, A2, A3, A4, A5, A6, A7, A8⟩ := hA
  obtain ⟨R, hR⟩ : ∃ R, R = stOk d (.mk 6 sp1 sn1 (.mk k1 nm1 h1 l1) ⟨pn1, ph1, pp1⟩ ⟨rk1, rh1, ro1, ⟨pnr1, phr1, ppr1⟩, rn1, rr1⟩ ⟨ono1, oio1, ⟨pno1, pho1, ppo1⟩⟩ ht1 th1 he1 el1 ha1 ar1) := ⟨_, rfl⟩
  rw [← hR]
  replace hR : R = (((emptyN sn1 && tyEq (.mk k1 nm1 h1 l1) tyZ)) && (noPl ⟨pn1, ph1, pp1⟩) && (rvEq ⟨rk1, rh1, ro1, ⟨pnr1, phr1, ppr1⟩, rn1, rr1⟩ rvZ) && (opOk ⟨ono1, oio1, ⟨pno1, pho1, ppo1⟩⟩) && (decide (th1.length = 0)) && (decide (el1.length = 0)) && (decide (ar1.length = 0))) := by
    rw [hR, stOk_6, stEq_Z]
    simp only [opEq_refl, Bool.and_true]
    ac_rfl
  have ch30 : ∀ W, Below w.heap.size w W → Calls Tryz.prog 30 #[tyV (.mk k1 nm1 h1 l1)] W fun e w' => e = .returned (.bool (tyEq (.mk k1 nm1 h1 l1) tyZ)) ∧ Below W.heap.size W w' := fun W _ => rnoTy_any _ W
  have ch90 : ∀ W, Below w.heap.size w W → Calls Tryz.prog 90 #[plV ⟨pn1, ph1, pp1⟩] W fun e w' => e = .returned (.bool (noPl ⟨pn1, ph1, pp1⟩)) ∧ Below W.heap.size W w' := fun W _ => rnoPlace_any _ W
  have ch91 : ∀ W, Below w.heap.size w W → Calls Tryz.prog 91 #[rvV ⟨rk1, rh1, ro1, ⟨pnr1, phr1, ppr1⟩, rn1, rr1⟩] W fun e w' => e = .returned (.bool (rvEq ⟨rk1, rh1, ro1, ⟨pnr1, phr1, ppr1⟩, rn1, rr1⟩ rvZ)) ∧ Below W.heap.size W w' := fun W _ => rnoRv_any _ W
  have ch92 : ∀ W, Below w.heap.size w W → Calls Tryz.prog 92 #[opV ⟨ono1, oio1, ⟨pno1, pho1, ppo1⟩⟩] W fun e w' => e = .returned (.bool (opEq ⟨ono1, oio1, ⟨pno1, pho1, ppo1⟩⟩ opZ)) ∧ Below W.heap.size W w' := fun W _ => rnoOper_any _ W
  have cop : ∀ W, Below w.heap.size w W → Calls Tryz.prog 95 #[opV ⟨ono1, oio1, ⟨pno1, pho1, ppo1⟩⟩] W fun e w' => e = .returned (.bool (opOk ⟨ono1, oio1, ⟨pno1, pho1, ppo1⟩⟩)) ∧ Below W.heap.size W w' := fun W hW => rvalidOper_any _ W (A5.below hW)
  clear A2 A3 A4 A5 A6 A7 A8
  obtain ⟨b3, hb3⟩ : ∃ b, b = tyEq (.mk k1 nm1 h1 l1) tyZ := ⟨_, rfl⟩
  rw [← hb3] at ch30 hR
  clear hb3
  obtain ⟨p0, hp0⟩ : ∃ b, b = (emptyN sn1 && b3) := ⟨_, rfl⟩
  rw [← hp0] at hR
  obtain ⟨b4, hq⟩ : ∃ b, b = (noPl ⟨pn1, ph1, pp1⟩) := ⟨_, rfl⟩
  rw [← hq] at ch90 hR
  clear hq
  obtain ⟨b5, hq⟩ : ∃ b, b = (rvEq ⟨rk1, rh1, ro1, ⟨pnr1, phr1, ppr1⟩, rn1, rr1⟩ rvZ) := ⟨_, rfl⟩
  rw [← hq] at ch91 hR
  clear hq
  obtain ⟨b6, hq⟩ : ∃ b, b = (opEq ⟨ono1, oio1, ⟨pno1, pho1, ppo1⟩⟩ opZ) := ⟨_, rfl⟩
  rw [← hq] at ch92
  clear hq
  have tb7 : ((th1.length : Int) == 0) = decide (th1.length = 0) := by rw [Bool.eq_iff_iff]; simp
  obtain ⟨b7, hq⟩ : ∃ b, b = decide (th1.length = 0) := ⟨_, rfl⟩
  rw [← hq] at tb7 hR
  clear hq
  have tb8 : ((el1.length : Int) == 0) = decide (el1.length = 0) := by rw [Bool.eq_iff_iff]; simp
  obtain ⟨b8, hq⟩ : ∃ b, b = decide (el1.length = 0) := ⟨_, rfl⟩
  rw [← hq] at tb8 hR
  clear hq
  have tb9 : ((ar1.length : Int) == 0) = decide (ar1.length = 0) := by rw [Bool.eq_iff_iff]; simp
  obtain ⟨b9, hq⟩ : ∃ b, b = decide (ar1.length = 0) := ⟨_, rfl⟩
  rw [← hq] at tb9 hR
  clear hq
  obtain ⟨x0, hq⟩ : ∃ b, b = (opOk ⟨ono1, oio1, ⟨pno1, pho1, ppo1⟩⟩) := ⟨_, rfl⟩
  rw [← hq] at cop hR
  clear hq
  simp only [tyV, tyC] at ch30
  replace ch30 := Lib.hid ch30
  simp only [plV, plC] at ch90
  replace ch90 := Lib.hid ch90
  simp only [rvV, rvC, plC, List.cons_append, List.nil_append] at ch91
  replace ch91 := Lib.hid ch91
  simp only [opV, opC, plC, List.cons_append, List.nil_append] at ch92
  replace ch92 := Lib.hid ch92
  simp only [opV, opC, plC, List.cons_append, List.nil_append] at cop
  replace cop := Lib.hid cop
  simp only [stV]
  obtain ⟨c1, hc1'⟩ : ∃ c, c = stC (.mk 6 sp1 sn1 (.mk k1 nm1 h1 l1) ⟨pn1, ph1, pp1⟩ ⟨rk1, rh1, ro1, ⟨pnr1, phr1, ppr1⟩, rn1, rr1⟩ ⟨ono1, oio1, ⟨pno1, pho1, ppo1⟩⟩ ht1 th1 he1 el1 ha1 ar1) := ⟨_, rfl⟩
  rw [← hc1']
  have e0 : c1[0]? = some (.int .i64 6) := by rw [hc1']; rfl
  have e2 : c1[2]? = some (.string sn1) := by rw [hc1']; rfl
  have e3 : c1[3]? = some (.int .i64 k1) := by rw [hc1']; rfl
  have e4 : c1[4]? = some (.string nm1) := by rw [hc1']; rfl
  have e5 : c1[5]? = some (.slice h1.oa l1.length h1.cap) := by rw [hc1']; rfl
  have e6 : c1[6]? = some (.string pn1) := by rw [hc1']; rfl
  have e7 : c1[7]? = some (.slice ph1.oa pp1.length ph1.cap) := by rw [hc1']; rfl
  have e8 : c1[8]? = some (.int .i64 rk1) := by rw [hc1']; rfl
  have e9 : c1[9]? = some (.slice rh1.oa ro1.length rh1.cap) := by rw [hc1']; rfl
  have e10 : c1[10]? = some (.string pnr1) := by rw [hc1']; rfl
  have e11 : c1[11]? = some (.slice phr1.oa ppr1.length phr1.cap) := by rw [hc1']; rfl
  have e12 : c1[12]? = some (.string rn1) := by rw [hc1']; rfl
  have e13 : c1[13]? = some (.string rr1) := by rw [hc1']; rfl
  have e14 : c1[14]? = some (.bool ono1) := by rw [hc1']; rfl
  have e15 : c1[15]? = some (.int .i64 oio1) := by rw [hc1']; rfl
  have e16 : c1[16]? = some (.string pno1) := by rw [hc1']; rfl
  have e17 : c1[17]? = some (.slice pho1.oa ppo1.length pho1.cap) := by rw [hc1']; rfl
  have e18 : c1[18]? = some (.slice ht1.oa th1.length ht1.cap) := by rw [hc1']; rfl
  have e19 : c1[19]? = some (.slice he1.oa el1.length he1.cap) := by rw [hc1']; rfl
  have e20 : c1[20]? = some (.slice ha1.oa ar1.length ha1.cap) := by rw [hc1']; rfl
  clear hc1'
  obtain ⟨W0, hW0⟩ : ∃ W, W = w.alloc (.cells c1.toArray 52) := ⟨_, rfl⟩
  have HW0 : Below w.heap.size w W0 := by rw [hW0]; exact (Below.refl _ _).alloc (Nat.le_refl _) _
  replace HW0 := Lib.hid HW0
  have r0 : W0.rangeAt w.heap.size 0 c1 := by rw [hW0]; exact rangeAt_box w c1 52
  have hz1 := Lib.hid (show ∀ w', Below W0.heap.size W0 w' → (w'.cell? ⟨w.heap.size, 2, none⟩ = some (.string sn1) ∧ w'.cell? ⟨w.heap.size, 3, none⟩ = some (.int .i64 k1) ∧ w'.cell? ⟨w.heap.size, 4, none⟩ = some (.string nm1) ∧ w'.cell? ⟨w.heap.size, 5, none⟩ = some (.slice h1.oa l1.length h1.cap)) from fun w' hb => by
    have q : ∀ (n : Nat), 0 + n = n := Nat.zero_add
    exact ⟨rangeAt_below r0 hb 2 _ e2, rangeAt_below r0 hb 3 _ e3, rangeAt_below r0 hb 4 _ e4, rangeAt_below r0 hb 5 _ e5⟩)
  have hz2 := Lib.hid (show ∀ w', Below W0.heap.size W0 w' → (w'.cell? ⟨w.heap.size, 6, none⟩ = some (.string pn1) ∧ w'.cell? ⟨w.heap.size, 7, none⟩ = some (.slice ph1.oa pp1.length ph1.cap)) from fun w' hb => by
    have q : ∀ (n : Nat), 0 + n = n := Nat.zero_add
    exact ⟨rangeAt_below r0 hb 6 _ e6, rangeAt_below r0 hb 7 _ e7⟩)
  have hz3 := Lib.hid (show ∀ w', Below W0.heap.size W0 w' → (w'.cell? ⟨w.heap.size, 8, none⟩ = some (.int .i64 rk1) ∧ w'.cell? ⟨w.heap.size, 9, none⟩ = some (.slice rh1.oa ro1.length rh1.cap) ∧ w'.cell? ⟨w.heap.size, 10, none⟩ = some (.string pnr1) ∧ w'.cell? ⟨w.heap.size, 11, none⟩ = some (.slice phr1.oa ppr1.length phr1.cap) ∧ w'.cell? ⟨w.heap.size, 12, none⟩ = some (.string rn1) ∧ w'.cell? ⟨w.heap.size, 13, none⟩ = some (.string rr1)) from fun w' hb => by
    have q : ∀ (n : Nat), 0 + n = n := Nat.zero_add
    exact ⟨rangeAt_below r0 hb 8 _ e8, rangeAt_below r0 hb 9 _ e9, rangeAt_below r0 hb 10 _ e10, rangeAt_below r0 hb 11 _ e11, rangeAt_below r0 hb 12 _ e12, rangeAt_below r0 hb 13 _ e13⟩)
  have hz4 := Lib.hid (show ∀ w', Below W0.heap.size W0 w' → (w'.cell? ⟨w.heap.size, 14, none⟩ = some (.bool ono1) ∧ w'.cell? ⟨w.heap.size, 15, none⟩ = some (.int .i64 oio1) ∧ w'.cell? ⟨w.heap.size, 16, none⟩ = some (.string pno1) ∧ w'.cell? ⟨w.heap.size, 17, none⟩ = some (.slice pho1.oa ppo1.length pho1.cap)) from fun w' hb => by
    have q : ∀ (n : Nat), 0 + n = n := Nat.zero_add
    exact ⟨rangeAt_below r0 hb 14 _ e14, rangeAt_below r0 hb 15 _ e15, rangeAt_below r0 hb 16 _ e16, rangeAt_below r0 hb 17 _ e17⟩)
  have hz5 := Lib.hid (show ∀ w', Below W0.heap.size W0 w' → (w'.cell? ⟨w.heap.size, 0, none⟩ = some (.int .i64 6) ∧ w'.cell? ⟨w.heap.size, 18, none⟩ = some (.slice ht1.oa th1.length ht1.cap) ∧ w'.cell? ⟨w.heap.size, 19, none⟩ = some (.slice he1.oa el1.length he1.cap) ∧ w'.cell? ⟨w.heap.size, 20, none⟩ = some (.slice ha1.oa ar1.length ha1.cap)) from fun w' hb => by
    have q : ∀ (n : Nat), 0 + n = n := Nat.zero_add
    exact ⟨rangeAt_below r0 hb 0 _ e0, rangeAt_below r0 hb 18 _ e18, rangeAt_below r0 hb 19 _ e19, rangeAt_below r0 hb 20 _ e20⟩)
  have hz6 := Lib.hid (show ∀ w', Below W0.heap.size W0 w' → (w'.cell? ⟨w.heap.size, 14, none⟩ = some (.bool ono1) ∧ w'.cell? ⟨w.heap.size, 15, none⟩ = some (.int .i64 oio1) ∧ w'.cell? ⟨w.heap.size, 16, none⟩ = some (.string pno1) ∧ w'.cell? ⟨w.heap.size, 17, none⟩ = some (.slice pho1.oa ppo1.length pho1.cap)) from fun w' hb => by
    have q : ∀ (n : Nat), 0 + n = n := Nat.zero_add
    exact ⟨rangeAt_below r0 hb 14 _ e14, rangeAt_below r0 hb 15 _ e15, rangeAt_below r0 hb 16 _ e16, rangeAt_below r0 hb 17 _ e17⟩)
  clear r0 e0 e2 e3 e4 e5 e6 e7 e8 e9 e10 e11 e12 e13 e14 e15 e16 e17 e18 e19 e20
  have HR0 := Lib.hid hR
  have HP0 := Lib.hid hp0
  clear hR hp0
  go_enter Tryz.func66, Tryz.ntmps66
  go_upto_region 1 with fail
  rw [← hW0]
  clear hW0
  go_cut [5] from 14 to 21 (fun s wc => s = .bool p0 ∧ Below W0.heap.size W0 wc)
  case first =>
    obtain ⟨z2, z3, z4, z5⟩ := hz1.out _ (Below.refl _ _)
    cases he : emptyN sn1 with
    | false =>
      obtain ⟨e1, e2⟩ := empty_no he
      have HE := Lib.hid (show p0 = false by rw [HP0.out, he]; rfl)
      clear he
      go_wp2_with fail
      go_meet
      exact ⟨by rw [HE.out]; first | done | rfl, Below.refl _ _⟩
    | true =>
      have HE := Lib.hid (show p0 = b3 by rw [HP0.out, he]; rfl)
      obtain rfl := empty_of he
      clear he
      go_wp2_with (go_at_call 30; refine (ch30.out _ HW0.out).mono ?_; rintro e w1 ⟨rfl, hb1'⟩; have K1 := Lib.hid hb1'; clear hb1')
      go_meet
      exact ⟨by rw [HE.out]; first | done | rfl, K1.out⟩
  case rest =>
  obtain ⟨rfl, hk⟩ := hcut
  obtain ⟨v1, rfl⟩ : ∃ v : World, v = wc := ⟨_, rfl⟩
  have K1 := Lib.hid hk
  clear hk HP0
  obtain ⟨y6, y7⟩ := hz2.out _ K1.out
  go_upto_region 30 with (first
    | (go_at_call 90; refine (ch90.out _ (HW0.out.trans (K1.out.mono HW0.out.size))).mono ?_; rintro e v2 ⟨rfl, hb⟩; have K2 := Lib.hid (K1.out.trans (hb.mono K1.out.size)); clear hb; obtain ⟨y8, y9, y10, y11, y12, y13⟩ := hz3.out _ K2.out)
    | (go_at_call 91; refine (ch91.out _ (HW0.out.trans (K2.out.mono HW0.out.size))).mono ?_; rintro e v3 ⟨rfl, hb⟩; have K3 := Lib.hid (K2.out.trans (hb.mono K2.out.size)); clear hb; obtain ⟨y14, y15, y16, y17⟩ := hz4.out _ K3.out)
    | (go_at_call 92; refine (ch92.out _ (HW0.out.trans (K3.out.mono HW0.out.size))).mono ?_; rintro e v4 ⟨rfl, hb⟩; have K4 := Lib.hid (K3.out.trans (hb.mono K3.out.size)); clear hb; obtain ⟨y0, y18, y19, y20⟩ := hz5.out _ K4.out))
  obtain ⟨q4_14, q4_15, q4_16, q4_17⟩ := hz6.out _ K4.out
  have hR := HR0.out
  clear HR0 ch30 ch90 ch91 ch92 hz1 hz2 hz3 hz4 hz5
  cases p0 with
  | false =>
    have HR := Lib.hid (show R = false by rw [hR]; first | done | rfl | simp)
    clear hR
    go_wp2_with fail
    go_ret
    exact ⟨by rw [HR.out]; first | done | rfl, HW0.out.trans (K4.out.mono HW0.out.size)⟩
  | true =>
  cases b4 with
  | false =>
    have HR := Lib.hid (show R = false by rw [hR]; first | done | rfl | simp)
    clear hR
    go_wp2_with fail
    go_ret
    exact ⟨by rw [HR.out]; first | done | rfl, HW0.out.trans (K4.out.mono HW0.out.size)⟩
  | true =>
  cases b5 with
  | false =>
    have HR := Lib.hid (show R = false by rw [hR]; first | done | rfl | simp)
    clear hR
    go_wp2_with fail
    go_ret
    exact ⟨by rw [HR.out]; first | done | rfl, HW0.out.trans (K4.out.mono HW0.out.size)⟩
  | true =>
  cases x0 with
  | false =>
    have HR := Lib.hid (show R = false by rw [hR]; first | done | rfl | simp)
    clear hR
    go_wp2_with (first | (go_at_call 95; refine (cop.out _ (HW0.out.trans (K4.out.mono HW0.out.size))).mono ?_; rintro e v5 ⟨rfl, hb⟩; have K5 := Lib.hid (K4.out.trans (hb.mono K4.out.size)); clear hb; obtain ⟨q5_14, q5_15, q5_16, q5_17⟩ := hz6.out _ K5.out))
    go_ret
    exact ⟨by rw [HR.out]; first | done | rfl, HW0.out.trans (K5.out.mono HW0.out.size)⟩
  | true =>
  cases b7 with
  | false =>
    have HR := Lib.hid (show R = false by rw [hR]; first | done | rfl | simp)
    clear hR
    go_wp2_with (first | (go_at_call 95; refine (cop.out _ (HW0.out.trans (K4.out.mono HW0.out.size))).mono ?_; rintro e v5 ⟨rfl, hb⟩; have K5 := Lib.hid (K4.out.trans (hb.mono K4.out.size)); clear hb; obtain ⟨q5_14, q5_15, q5_16, q5_17⟩ := hz6.out _ K5.out))
    go_ret
    exact ⟨by rw [HR.out]; first | done | rfl, HW0.out.trans (K5.out.mono HW0.out.size)⟩
  | true =>
  cases b8 with
  | false =>
    have HR := Lib.hid (show R = false by rw [hR]; first | done | rfl | simp)
    clear hR
    go_wp2_with (first | (go_at_call 95; refine (cop.out _ (HW0.out.trans (K4.out.mono HW0.out.size))).mono ?_; rintro e v5 ⟨rfl, hb⟩; have K5 := Lib.hid (K4.out.trans (hb.mono K4.out.size)); clear hb; obtain ⟨q5_14, q5_15, q5_16, q5_17⟩ := hz6.out _ K5.out))
    go_ret
    exact ⟨by rw [HR.out]; first | done | rfl, HW0.out.trans (K5.out.mono HW0.out.size)⟩
  | true =>
  cases b9 with
  | false =>
    have HR := Lib.hid (show R = false by rw [hR]; first | done | rfl | simp)
    clear hR
    go_wp2_with (first | (go_at_call 95; refine (cop.out _ (HW0.out.trans (K4.out.mono HW0.out.size))).mono ?_; rintro e v5 ⟨rfl, hb⟩; have K5 := Lib.hid (K4.out.trans (hb.mono K4.out.size)); clear hb; obtain ⟨q5_14, q5_15, q5_16, q5_17⟩ := hz6.out _ K5.out))
    go_ret
    exact ⟨by rw [HR.out]; first | done | rfl, HW0.out.trans (K5.out.mono HW0.out.size)⟩
  | true =>
  have HR := Lib.hid (show R = true by rw [hR]; first | done | rfl | simp)
  clear hR
  go_wp2_with (first | (go_at_call 95; refine (cop.out _ (HW0.out.trans (K4.out.mono HW0.out.size))).mono ?_; rintro e v5 ⟨rfl, hb⟩; have K5 := Lib.hid (K4.out.trans (hb.mono K4.out.size)); clear hb; obtain ⟨q5_14, q5_15, q5_16, q5_17⟩ := hz6.out _ K5.out))
  go_ret
  exact ⟨by rw [HR.out]; first | done | rfl, HW0.out.trans (K5.out.mono HW0.out.size)⟩

set_option maxRecDepth 100000 in
set_option maxHeartbeats 64000000 in
theorem rValidStmt_7 (n d : Nat) (_ : d ≤ 60) (sp1 : Int) (sn1 : ByteArray) (k1 : Int) (nm1 : ByteArray) (h1 : Hd) (l1 : List Ty5) (pn1 : ByteArray) (ph1 : Hd) (pp1 : List ByteArray) (rk1 : Int) (rh1 : Hd) (ro1 : List Op5) (pnr1 : ByteArray) (phr1 : Hd) (ppr1 : List ByteArray) (rn1 rr1 : ByteArray) (ono1 : Bool) (oio1 : Int) (pno1 : ByteArray) (pho1 : Hd) (ppo1 : List ByteArray) (ht1 : Hd) (th1 : List St5) (he1 : Hd) (el1 : List St5) (ha1 : Hd) (ar1 : List Ar5) (w : World) (hA : StH (n + 1) w (.mk 7 sp1 sn1 (.mk k1 nm1 h1 l1) ⟨pn1, ph1, pp1⟩ ⟨rk1, rh1, ro1, ⟨pnr1, phr1, ppr1⟩, rn1, rr1⟩ ⟨ono1, oio1, ⟨pno1, pho1, ppo1⟩⟩ ht1 th1 he1 el1 ha1 ar1))
    (_ : ∀ (d : Nat), d ≤ 61 → ∀ (h : Hd) (l : List St5) (w : World), Row w h 21 l stC (StH n w) → Calls Tryz.prog 33 #[.slice h.oa l.length h.cap, .int .i64 d] w fun e w' => e = .returned (.bool (rowOk d l)) ∧ Below w.heap.size w w') :
    Calls Tryz.prog 66 #[stV (.mk 7 sp1 sn1 (.mk k1 nm1 h1 l1) ⟨pn1, ph1, pp1⟩ ⟨rk1, rh1, ro1, ⟨pnr1, phr1, ppr1⟩, rn1, rr1⟩ ⟨ono1, oio1, ⟨pno1, pho1, ppo1⟩⟩ ht1 th1 he1 el1 ha1 ar1), .int .i64 d] w fun e w' => e = .returned (.bool (stOk d (.mk 7 sp1 sn1 (.mk k1 nm1 h1 l1) ⟨pn1, ph1, pp1⟩ ⟨rk1, rh1, ro1, ⟨pnr1, phr1, ppr1⟩, rn1, rr1⟩ ⟨ono1, oio1, ⟨pno1, pho1, ppo1⟩⟩ ht1 th1 he1 el1 ha1 ar1))) ∧ Below w.heap.size w w' := by
  obtain ⟨-, A2, A3, A4, A5, A6, A7, A8⟩ := hA
  obtain ⟨R, hR⟩ : ∃ R, R = stOk d (.mk 7 sp1 sn1 (.mk k1 nm1 h1 l1) ⟨pn1, ph1, pp1⟩ ⟨rk1, rh1, ro1, ⟨pnr1, phr1, ppr1⟩, rn1, rr1⟩ ⟨ono1, oio1, ⟨pno1, pho1, ppo1⟩⟩ ht1 th1 he1 el1 ha1 ar1) := ⟨_, rfl⟩
  rw [← hR]
  replace hR : R = (((emptyN sn1 && tyEq (.mk k1 nm1 h1 l1) tyZ)) && (noPl ⟨pn1, ph1, pp1⟩) && (rvEq ⟨rk1, rh1, ro1, ⟨pnr1, phr1, ppr1⟩, rn1, rr1⟩ rvZ) && (opOk ⟨ono1, oio1, ⟨pno1, pho1, ppo1⟩⟩) && (decide (th1.length = 0)) && (decide (el1.length = 0)) && (decide (ar1.length = 0))) := by
    rw [hR, stOk_7, stEq_Z]
    simp only [opEq_refl, Bool.and_true]
    ac_rfl
  have ch30 : ∀ W, Below w.heap.size w W → Calls Tryz.prog 30 #[tyV (.mk k1 nm1 h1 l1)] W fun e w' => e = .returned (.bool (tyEq (.mk k1 nm1 h1 l1) tyZ)) ∧ Below W.heap.size W w' := fun W _ => rnoTy_any _ W
  have ch90 : ∀ W, Below w.heap.size w W → Calls Tryz.prog 90 #[plV ⟨pn1, ph1, pp1⟩] W fun e w' => e = .returned (.bool (noPl ⟨pn1, ph1, pp1⟩)) ∧ Below W.heap.size W w' := fun W _ => rnoPlace_any _ W
  have ch91 : ∀ W, Below w.heap.size w W → Calls Tryz.prog 91 #[rvV ⟨rk1, rh1, ro1, ⟨pnr1, phr1, ppr1⟩, rn1, rr1⟩] W fun e w' => e = .returned (.bool (rvEq ⟨rk1, rh1, ro1, ⟨pnr1, phr1, ppr1⟩, rn1, rr1⟩ rvZ)) ∧ Below W.heap.size W w' := fun W _ => rnoRv_any _ W
  have ch92 : ∀ W, Below w.heap.size w W → Calls Tryz.prog 92 #[opV ⟨ono1, oio1, ⟨pno1, pho1, ppo1⟩⟩] W fun e w' => e = .returned (.bool (opEq ⟨ono1, oio1, ⟨pno1, pho1, ppo1⟩⟩ opZ)) ∧ Below W.heap.size W w' := fun W _ => rnoOper_any _ W
  have cop : ∀ W, Below w.heap.size w W → Calls Tryz.prog 95 #[opV ⟨ono1, oio1, ⟨pno1, pho1, ppo1⟩⟩] W fun e w' => e = .returned (.bool (opOk ⟨ono1, oio1, ⟨pno1, pho1, ppo1⟩⟩)) ∧ Below W.heap.size W w' := fun W hW => rvalidOper_any _ W (A5.below hW)
  clear A2 A3 A4 A5 A6 A7 A8
  obtain ⟨b3, hb3⟩ : ∃ b, b = tyEq (.mk k1 nm1 h1 l1) tyZ := ⟨_, rfl⟩
  rw [← hb3] at ch30 hR
  clear hb3
  obtain ⟨p0, hp0⟩ : ∃ b, b = (emptyN sn1 && b3) := ⟨_, rfl⟩
  rw [← hp0] at hR
  obtain ⟨b4, hq⟩ : ∃ b, b = (noPl ⟨pn1, ph1, pp1⟩) := ⟨_, rfl⟩
  rw [← hq] at ch90 hR
  clear hq
  obtain ⟨b5, hq⟩ : ∃ b, b = (rvEq ⟨rk1, rh1, ro1, ⟨pnr1, phr1, ppr1⟩, rn1, rr1⟩ rvZ) := ⟨_, rfl⟩
  rw [← hq] at ch91 hR
  clear hq
  obtain ⟨b6, hq⟩ : ∃ b, b = (opEq ⟨ono1, oio1, ⟨pno1, pho1, ppo1⟩⟩ opZ) := ⟨_, rfl⟩
  rw [← hq] at ch92
  clear hq
  have tb7 : ((th1.length : Int) == 0) = decide (th1.length = 0) := by rw [Bool.eq_iff_iff]; simp
  obtain ⟨b7, hq⟩ : ∃ b, b = decide (th1.length = 0) := ⟨_, rfl⟩
  rw [← hq] at tb7 hR
  clear hq
  have tb8 : ((el1.length : Int) == 0) = decide (el1.length = 0) := by rw [Bool.eq_iff_iff]; simp
  obtain ⟨b8, hq⟩ : ∃ b, b = decide (el1.length = 0) := ⟨_, rfl⟩
  rw [← hq] at tb8 hR
  clear hq
  have tb9 : ((ar1.length : Int) == 0) = decide (ar1.length = 0) := by rw [Bool.eq_iff_iff]; simp
  obtain ⟨b9, hq⟩ : ∃ b, b = decide (ar1.length = 0) := ⟨_, rfl⟩
  rw [← hq] at tb9 hR
  clear hq
  obtain ⟨x0, hq⟩ : ∃ b, b = (opOk ⟨ono1, oio1, ⟨pno1, pho1, ppo1⟩⟩) := ⟨_, rfl⟩
  rw [← hq] at cop hR
  clear hq
  simp only [tyV, tyC] at ch30
  replace ch30 := Lib.hid ch30
  simp only [plV, plC] at ch90
  replace ch90 := Lib.hid ch90
  simp only [rvV, rvC, plC, List.cons_append, List.nil_append] at ch91
  replace ch91 := Lib.hid ch91
  simp only [opV, opC, plC, List.cons_append, List.nil_append] at ch92
  replace ch92 := Lib.hid ch92
  simp only [opV, opC, plC, List.cons_append, List.nil_append] at cop
  replace cop := Lib.hid cop
  simp only [stV]
  obtain ⟨c1, hc1'⟩ : ∃ c, c = stC (.mk 7 sp1 sn1 (.mk k1 nm1 h1 l1) ⟨pn1, ph1, pp1⟩ ⟨rk1, rh1, ro1, ⟨pnr1, phr1, ppr1⟩, rn1, rr1⟩ ⟨ono1, oio1, ⟨pno1, pho1, ppo1⟩⟩ ht1 th1 he1 el1 ha1 ar1) := ⟨_, rfl⟩
  rw [← hc1']
  have e0 : c1[0]? = some (.int .i64 7) := by rw [hc1']; rfl
  have e2 : c1[2]? = some (.string sn1) := by rw [hc1']; rfl
  have e3 : c1[3]? = some (.int .i64 k1) := by rw [hc1']; rfl
  have e4 : c1[4]? = some (.string nm1) := by rw [hc1']; rfl
  have e5 : c1[5]? = some (.slice h1.oa l1.length h1.cap) := by rw [hc1']; rfl
  have e6 : c1[6]? = some (.string pn1) := by rw [hc1']; rfl
  have e7 : c1[7]? = some (.slice ph1.oa pp1.length ph1.cap) := by rw [hc1']; rfl
  have e8 : c1[8]? = some (.int .i64 rk1) := by rw [hc1']; rfl
  have e9 : c1[9]? = some (.slice rh1.oa ro1.length rh1.cap) := by rw [hc1']; rfl
  have e10 : c1[10]? = some (.string pnr1) := by rw [hc1']; rfl
  have e11 : c1[11]? = some (.slice phr1.oa ppr1.length phr1.cap) := by rw [hc1']; rfl
  have e12 : c1[12]? = some (.string rn1) := by rw [hc1']; rfl
  have e13 : c1[13]? = some (.string rr1) := by rw [hc1']; rfl
  have e14 : c1[14]? = some (.bool ono1) := by rw [hc1']; rfl
  have e15 : c1[15]? = some (.int .i64 oio1) := by rw [hc1']; rfl
  have e16 : c1[16]? = some (.string pno1) := by rw [hc1']; rfl
  have e17 : c1[17]? = some (.slice pho1.oa ppo1.length pho1.cap) := by rw [hc1']; rfl
  have e18 : c1[18]? = some (.slice ht1.oa th1.length ht1.cap) := by rw [hc1']; rfl
  have e19 : c1[19]? = some (.slice he1.oa el1.length he1.cap) := by rw [hc1']; rfl
  have e20 : c1[20]? = some (.slice ha1.oa ar1.length ha1.cap) := by rw [hc1']; rfl
  clear hc1'
  obtain ⟨W0, hW0⟩ : ∃ W, W = w.alloc (.cells c1.toArray 52) := ⟨_, rfl⟩
  have HW0 : Below w.heap.size w W0 := by rw [hW0]; exact (Below.refl _ _).alloc (Nat.le_refl _) _
  replace HW0 := Lib.hid HW0
  have r0 : W0.rangeAt w.heap.size 0 c1 := by rw [hW0]; exact rangeAt_box w c1 52
  have hz1 := Lib.hid (show ∀ w', Below W0.heap.size W0 w' → (w'.cell? ⟨w.heap.size, 2, none⟩ = some (.string sn1) ∧ w'.cell? ⟨w.heap.size, 3, none⟩ = some (.int .i64 k1) ∧ w'.cell? ⟨w.heap.size, 4, none⟩ = some (.string nm1) ∧ w'.cell? ⟨w.heap.size, 5, none⟩ = some (.slice h1.oa l1.length h1.cap)) from fun w' hb => by
    have q : ∀ (n : Nat), 0 + n = n := Nat.zero_add
    exact ⟨rangeAt_below r0 hb 2 _ e2, rangeAt_below r0 hb 3 _ e3, rangeAt_below r0 hb 4 _ e4, rangeAt_below r0 hb 5 _ e5⟩)
  have hz2 := Lib.hid (show ∀ w', Below W0.heap.size W0 w' → (w'.cell? ⟨w.heap.size, 6, none⟩ = some (.string pn1) ∧ w'.cell? ⟨w.heap.size, 7, none⟩ = some (.slice ph1.oa pp1.length ph1.cap)) from fun w' hb => by
    have q : ∀ (n : Nat), 0 + n = n := Nat.zero_add
    exact ⟨rangeAt_below r0 hb 6 _ e6, rangeAt_below r0 hb 7 _ e7⟩)
  have hz3 := Lib.hid (show ∀ w', Below W0.heap.size W0 w' → (w'.cell? ⟨w.heap.size, 8, none⟩ = some (.int .i64 rk1) ∧ w'.cell? ⟨w.heap.size, 9, none⟩ = some (.slice rh1.oa ro1.length rh1.cap) ∧ w'.cell? ⟨w.heap.size, 10, none⟩ = some (.string pnr1) ∧ w'.cell? ⟨w.heap.size, 11, none⟩ = some (.slice phr1.oa ppr1.length phr1.cap) ∧ w'.cell? ⟨w.heap.size, 12, none⟩ = some (.string rn1) ∧ w'.cell? ⟨w.heap.size, 13, none⟩ = some (.string rr1)) from fun w' hb => by
    have q : ∀ (n : Nat), 0 + n = n := Nat.zero_add
    exact ⟨rangeAt_below r0 hb 8 _ e8, rangeAt_below r0 hb 9 _ e9, rangeAt_below r0 hb 10 _ e10, rangeAt_below r0 hb 11 _ e11, rangeAt_below r0 hb 12 _ e12, rangeAt_below r0 hb 13 _ e13⟩)
  have hz4 := Lib.hid (show ∀ w', Below W0.heap.size W0 w' → (w'.cell? ⟨w.heap.size, 14, none⟩ = some (.bool ono1) ∧ w'.cell? ⟨w.heap.size, 15, none⟩ = some (.int .i64 oio1) ∧ w'.cell? ⟨w.heap.size, 16, none⟩ = some (.string pno1) ∧ w'.cell? ⟨w.heap.size, 17, none⟩ = some (.slice pho1.oa ppo1.length pho1.cap)) from fun w' hb => by
    have q : ∀ (n : Nat), 0 + n = n := Nat.zero_add
    exact ⟨rangeAt_below r0 hb 14 _ e14, rangeAt_below r0 hb 15 _ e15, rangeAt_below r0 hb 16 _ e16, rangeAt_below r0 hb 17 _ e17⟩)
  have hz5 := Lib.hid (show ∀ w', Below W0.heap.size W0 w' → (w'.cell? ⟨w.heap.size, 0, none⟩ = some (.int .i64 7) ∧ w'.cell? ⟨w.heap.size, 18, none⟩ = some (.slice ht1.oa th1.length ht1.cap) ∧ w'.cell? ⟨w.heap.size, 19, none⟩ = some (.slice he1.oa el1.length he1.cap) ∧ w'.cell? ⟨w.heap.size, 20, none⟩ = some (.slice ha1.oa ar1.length ha1.cap)) from fun w' hb => by
    have q : ∀ (n : Nat), 0 + n = n := Nat.zero_add
    exact ⟨rangeAt_below r0 hb 0 _ e0, rangeAt_below r0 hb 18 _ e18, rangeAt_below r0 hb 19 _ e19, rangeAt_below r0 hb 20 _ e20⟩)
  have hz6 := Lib.hid (show ∀ w', Below W0.heap.size W0 w' → (w'.cell? ⟨w.heap.size, 14, none⟩ = some (.bool ono1) ∧ w'.cell? ⟨w.heap.size, 15, none⟩ = some (.int .i64 oio1) ∧ w'.cell? ⟨w.heap.size, 16, none⟩ = some (.string pno1) ∧ w'.cell? ⟨w.heap.size, 17, none⟩ = some (.slice pho1.oa ppo1.length pho1.cap)) from fun w' hb => by
    have q : ∀ (n : Nat), 0 + n = n := Nat.zero_add
    exact ⟨rangeAt_below r0 hb 14 _ e14, rangeAt_below r0 hb 15 _ e15, rangeAt_below r0 hb 16 _ e16, rangeAt_below r0 hb 17 _ e17⟩)
  clear r0 e0 e2 e3 e4 e5 e6 e7 e8 e9 e10 e11 e12 e13 e14 e15 e16 e17 e18 e19 e20
  have HR0 := Lib.hid hR
  have HP0 := Lib.hid hp0
  clear hR hp0
  go_enter Tryz.func66, Tryz.ntmps66
  go_upto_region 1 with fail
  rw [← hW0]
  clear hW0
  go_cut [5] from 14 to 21 (fun s wc => s = .bool p0 ∧ Below W0.heap.size W0 wc)
  case first =>
    obtain ⟨z2, z3, z4, z5⟩ := hz1.out _ (Below.refl _ _)
    cases he : emptyN sn1 with
    | false =>
      obtain ⟨e1, e2⟩ := empty_no he
      have HE := Lib.hid (show p0 = false by rw [HP0.out, he]; rfl)
      clear he
      go_wp2_with fail
      go_meet
      exact ⟨by rw [HE.out]; first | done | rfl, Below.refl _ _⟩
    | true =>
      have HE := Lib.hid (show p0 = b3 by rw [HP0.out, he]; rfl)
      obtain rfl := empty_of he
      clear he
      go_wp2_with (go_at_call 30; refine (ch30.out _ HW0.out).mono ?_; rintro e w1 ⟨rfl, hb1'⟩; have K1 := Lib.hid hb1'; clear hb1')
      go_meet
      exact ⟨by rw [HE.out]; first | done | rfl, K1.out⟩
  case rest =>
  obtain ⟨rfl, hk⟩ := hcut
  obtain ⟨v1, rfl⟩ : ∃ v : World, v = wc := ⟨_, rfl⟩
  have K1 := Lib.hid hk
  clear hk HP0
  obtain ⟨y6, y7⟩ := hz2.out _ K1.out
  go_upto_region 30 with (first
    | (go_at_call 90; refine (ch90.out _ (HW0.out.trans (K1.out.mono HW0.out.size))).mono ?_; rintro e v2 ⟨rfl, hb⟩; have K2 := Lib.hid (K1.out.trans (hb.mono K1.out.size)); clear hb; obtain ⟨y8, y9, y10, y11, y12, y13⟩ := hz3.out _ K2.out)
    | (go_at_call 91; refine (ch91.out _ (HW0.out.trans (K2.out.mono HW0.out.size))).mono ?_; rintro e v3 ⟨rfl, hb⟩; have K3 := Lib.hid (K2.out.trans (hb.mono K2.out.size)); clear hb; obtain ⟨y14, y15, y16, y17⟩ := hz4.out _ K3.out)
    | (go_at_call 92; refine (ch92.out _ (HW0.out.trans (K3.out.mono HW0.out.size))).mono ?_; rintro e v4 ⟨rfl, hb⟩; have K4 := Lib.hid (K3.out.trans (hb.mono K3.out.size)); clear hb; obtain ⟨y0, y18, y19, y20⟩ := hz5.out _ K4.out))
  obtain ⟨q4_14, q4_15, q4_16, q4_17⟩ := hz6.out _ K4.out
  have hR := HR0.out
  clear HR0 ch30 ch90 ch91 ch92 hz1 hz2 hz3 hz4 hz5
  cases p0 with
  | false =>
    have HR := Lib.hid (show R = false by rw [hR]; first | done | rfl | simp)
    clear hR
    go_wp2_with fail
    go_ret
    exact ⟨by rw [HR.out]; first | done | rfl, HW0.out.trans (K4.out.mono HW0.out.size)⟩
  | true =>
  cases b4 with
  | false =>
    have HR := Lib.hid (show R = false by rw [hR]; first | done | rfl | simp)
    clear hR
    go_wp2_with fail
    go_ret
    exact ⟨by rw [HR.out]; first | done | rfl, HW0.out.trans (K4.out.mono HW0.out.size)⟩
  | true =>
  cases b5 with
  | false =>
    have HR := Lib.hid (show R = false by rw [hR]; first | done | rfl | simp)
    clear hR
    go_wp2_with fail
    go_ret
    exact ⟨by rw [HR.out]; first | done | rfl, HW0.out.trans (K4.out.mono HW0.out.size)⟩
  | true =>
  cases x0 with
  | false =>
    have HR := Lib.hid (show R = false by rw [hR]; first | done | rfl | simp)
    clear hR
    go_wp2_with (first | (go_at_call 95; refine (cop.out _ (HW0.out.trans (K4.out.mono HW0.out.size))).mono ?_; rintro e v5 ⟨rfl, hb⟩; have K5 := Lib.hid (K4.out.trans (hb.mono K4.out.size)); clear hb; obtain ⟨q5_14, q5_15, q5_16, q5_17⟩ := hz6.out _ K5.out))
    go_ret
    exact ⟨by rw [HR.out]; first | done | rfl, HW0.out.trans (K5.out.mono HW0.out.size)⟩
  | true =>
  cases b7 with
  | false =>
    have HR := Lib.hid (show R = false by rw [hR]; first | done | rfl | simp)
    clear hR
    go_wp2_with (first | (go_at_call 95; refine (cop.out _ (HW0.out.trans (K4.out.mono HW0.out.size))).mono ?_; rintro e v5 ⟨rfl, hb⟩; have K5 := Lib.hid (K4.out.trans (hb.mono K4.out.size)); clear hb; obtain ⟨q5_14, q5_15, q5_16, q5_17⟩ := hz6.out _ K5.out))
    go_ret
    exact ⟨by rw [HR.out]; first | done | rfl, HW0.out.trans (K5.out.mono HW0.out.size)⟩
  | true =>
  cases b8 with
  | false =>
    have HR := Lib.hid (show R = false by rw [hR]; first | done | rfl | simp)
    clear hR
    go_wp2_with (first | (go_at_call 95; refine (cop.out _ (HW0.out.trans (K4.out.mono HW0.out.size))).mono ?_; rintro e v5 ⟨rfl, hb⟩; have K5 := Lib.hid (K4.out.trans (hb.mono K4.out.size)); clear hb; obtain ⟨q5_14, q5_15, q5_16, q5_17⟩ := hz6.out _ K5.out))
    go_ret
    exact ⟨by rw [HR.out]; first | done | rfl, HW0.out.trans (K5.out.mono HW0.out.size)⟩
  | true =>
  cases b9 with
  | false =>
    have HR := Lib.hid (show R = false by rw [hR]; first | done | rfl | simp)
    clear hR
    go_wp2_with (first | (go_at_call 95; refine (cop.out _ (HW0.out.trans (K4.out.mono HW0.out.size))).mono ?_; rintro e v5 ⟨rfl, hb⟩; have K5 := Lib.hid (K4.out.trans (hb.mono K4.out.size)); clear hb; obtain ⟨q5_14, q5_15, q5_16, q5_17⟩ := hz6.out _ K5.out))
    go_ret
    exact ⟨by rw [HR.out]; first | done | rfl, HW0.out.trans (K5.out.mono HW0.out.size)⟩
  | true =>
  have HR := Lib.hid (show R = true by rw [hR]; first | done | rfl | simp)
  clear hR
  go_wp2_with (first | (go_at_call 95; refine (cop.out _ (HW0.out.trans (K4.out.mono HW0.out.size))).mono ?_; rintro e v5 ⟨rfl, hb⟩; have K5 := Lib.hid (K4.out.trans (hb.mono K4.out.size)); clear hb; obtain ⟨q5_14, q5_15, q5_16, q5_17⟩ := hz6.out _ K5.out))
  go_ret
  exact ⟨by rw [HR.out]; first | done | rfl, HW0.out.trans (K5.out.mono HW0.out.size)⟩

set_option maxRecDepth 100000 in
set_option maxHeartbeats 64000000 in
theorem rValidStmt_4 (n d : Nat) (hd : d ≤ 60) (sp1 : Int) (sn1 : ByteArray) (k1 : Int) (nm1 : ByteArray) (h1 : Hd) (l1 : List Ty5) (pn1 : ByteArray) (ph1 : Hd) (pp1 : List ByteArray) (rk1 : Int) (rh1 : Hd) (ro1 : List Op5) (pnr1 : ByteArray) (phr1 : Hd) (ppr1 : List ByteArray) (rn1 rr1 : ByteArray) (ono1 : Bool) (oio1 : Int) (pno1 : ByteArray) (pho1 : Hd) (ppo1 : List ByteArray) (ht1 : Hd) (th1 : List St5) (he1 : Hd) (el1 : List St5) (ha1 : Hd) (ar1 : List Ar5) (w : World) (hA : StH (n + 1) w (.mk 4 sp1 sn1 (.mk k1 nm1 h1 l1) ⟨pn1, ph1, pp1⟩ ⟨rk1, rh1, ro1, ⟨pnr1, phr1, ppr1⟩, rn1, rr1⟩ ⟨ono1, oio1, ⟨pno1, pho1, ppo1⟩⟩ ht1 th1 he1 el1 ha1 ar1))
    (ihB : ∀ (d : Nat), d ≤ 61 → ∀ (h : Hd) (l : List St5) (w : World), Row w h 21 l stC (StH n w) → Calls Tryz.prog 33 #[.slice h.oa l.length h.cap, .int .i64 d] w fun e w' => e = .returned (.bool (rowOk d l)) ∧ Below w.heap.size w w') :
    Calls Tryz.prog 66 #[stV (.mk 4 sp1 sn1 (.mk k1 nm1 h1 l1) ⟨pn1, ph1, pp1⟩ ⟨rk1, rh1, ro1, ⟨pnr1, phr1, ppr1⟩, rn1, rr1⟩ ⟨ono1, oio1, ⟨pno1, pho1, ppo1⟩⟩ ht1 th1 he1 el1 ha1 ar1), .int .i64 d] w fun e w' => e = .returned (.bool (stOk d (.mk 4 sp1 sn1 (.mk k1 nm1 h1 l1) ⟨pn1, ph1, pp1⟩ ⟨rk1, rh1, ro1, ⟨pnr1, phr1, ppr1⟩, rn1, rr1⟩ ⟨ono1, oio1, ⟨pno1, pho1, ppo1⟩⟩ ht1 th1 he1 el1 ha1 ar1))) ∧ Below w.heap.size w w' := by
  obtain ⟨oa1, capa1⟩ := ha1
  obtain ⟨-, A2, A3, A4, A5, A6, A7, A8⟩ := hA
  obtain ⟨R, hR⟩ : ∃ R, R = stOk d (.mk 4 sp1 sn1 (.mk k1 nm1 h1 l1) ⟨pn1, ph1, pp1⟩ ⟨rk1, rh1, ro1, ⟨pnr1, phr1, ppr1⟩, rn1, rr1⟩ ⟨ono1, oio1, ⟨pno1, pho1, ppo1⟩⟩ ht1 th1 he1 el1 ⟨oa1, capa1⟩ ar1) := ⟨_, rfl⟩
  rw [← hR]
  replace hR : R = (((emptyN sn1 && tyEq (.mk k1 nm1 h1 l1) tyZ)) && (aloneB ⟨pn1, ph1, pp1⟩) && (rvEq ⟨rk1, rh1, ro1, ⟨pnr1, phr1, ppr1⟩, rn1, rr1⟩ rvZ) && (opEq ⟨ono1, oio1, ⟨pno1, pho1, ppo1⟩⟩ opZ) && (decide (th1.length = 0)) && (decide (el1.length = 0)) && ar1.all (arOk (d + 1))) := by
    rw [hR, stOk_4, stEq_Z]
    simp only [noPl_Z, List.length_nil, decide_true, Bool.and_true]
    ac_rfl
  have ch30 : ∀ W, Below w.heap.size w W → Calls Tryz.prog 30 #[tyV (.mk k1 nm1 h1 l1)] W fun e w' => e = .returned (.bool (tyEq (.mk k1 nm1 h1 l1) tyZ)) ∧ Below W.heap.size W w' := fun W _ => rnoTy_any _ W
  have ch90 : ∀ W, Below w.heap.size w W → Calls Tryz.prog 90 #[plV ⟨pn1, ph1, pp1⟩] W fun e w' => e = .returned (.bool (noPl ⟨pn1, ph1, pp1⟩)) ∧ Below W.heap.size W w' := fun W _ => rnoPlace_any _ W
  have ch91 : ∀ W, Below w.heap.size w W → Calls Tryz.prog 91 #[rvV ⟨rk1, rh1, ro1, ⟨pnr1, phr1, ppr1⟩, rn1, rr1⟩] W fun e w' => e = .returned (.bool (rvEq ⟨rk1, rh1, ro1, ⟨pnr1, phr1, ppr1⟩, rn1, rr1⟩ rvZ)) ∧ Below W.heap.size W w' := fun W _ => rnoRv_any _ W
  have ch92 : ∀ W, Below w.heap.size w W → Calls Tryz.prog 92 #[opV ⟨ono1, oio1, ⟨pno1, pho1, ppo1⟩⟩] W fun e w' => e = .returned (.bool (opEq ⟨ono1, oio1, ⟨pno1, pho1, ppo1⟩⟩ opZ)) ∧ Below W.heap.size W w' := fun W _ => rnoOper_any _ W
  have calo : ∀ W, Below w.heap.size w W → Calls Tryz.prog 94 #[plV ⟨pn1, ph1, pp1⟩, .bool true] W fun e w' => e = .returned (.bool (aloneB ⟨pn1, ph1, pp1⟩)) ∧ Below W.heap.size W w' := fun W hW => rvalidPlace_bare _ W (A3.below hW)
  have cG : ∀ (s : ByteArray) (W : World), Calls Tryz.prog 28 #[.string s] W fun e w' => e = .returned (.bool (greatN s)) ∧ Below W.heap.size W w' := rgreat_any
  have cS : ∀ (s : ByteArray) (W : World), Calls Tryz.prog 32 #[.string s] W fun e w' => e = .returned (.bool (smallN s)) ∧ Below W.heap.size W w' := rsmall_any
  have cB : ∀ (av ab : ByteArray) (ah : Hd) (ay : List St5) (W : World), ArH n w (.mk av ab ah ay) → Below w.heap.size w W → Calls Tryz.prog 33 #[.slice ah.oa ay.length ah.cap, .int .i64 ((d : Int) + 1)] W fun e w' => e = .returned (.bool (rowOk (d + 1) ay)) ∧ Below W.heap.size W w' := fun av ab ah ay W hx hW => ihB (d + 1) (by omega) ah ay W (arH_row (ArH.below hx hW))
  replace cG := Lib.hid cG
  replace cS := Lib.hid cS
  replace cB := Lib.hid cB
  obtain ⟨a1, a2, a3, a4⟩ := A8
  dsimp only at a1 a2 a3
  unfold maxLen at a2
  replace a3 := Lib.hid a3
  replace a4 := Lib.hid a4
  clear A2 A3 A4 A5 A6 A7 ihB
  obtain ⟨b3, hb3⟩ : ∃ b, b = tyEq (.mk k1 nm1 h1 l1) tyZ := ⟨_, rfl⟩
  rw [← hb3] at ch30 hR
  clear hb3
  obtain ⟨p0, hp0⟩ : ∃ b, b = (emptyN sn1 && b3) := ⟨_, rfl⟩
  rw [← hp0] at hR
  obtain ⟨b4, hq⟩ : ∃ b, b = (noPl ⟨pn1, ph1, pp1⟩) := ⟨_, rfl⟩
  rw [← hq] at ch90
  clear hq
  obtain ⟨b5, hq⟩ : ∃ b, b = (rvEq ⟨rk1, rh1, ro1, ⟨pnr1, phr1, ppr1⟩, rn1, rr1⟩ rvZ) := ⟨_, rfl⟩
  rw [← hq] at ch91 hR
  clear hq
  obtain ⟨b6, hq⟩ : ∃ b, b = (opEq ⟨ono1, oio1, ⟨pno1, pho1, ppo1⟩⟩ opZ) := ⟨_, rfl⟩
  rw [← hq] at ch92 hR
  clear hq
  have tb7 : ((th1.length : Int) == 0) = decide (th1.length = 0) := by rw [Bool.eq_iff_iff]; simp
  obtain ⟨b7, hq⟩ : ∃ b, b = decide (th1.length = 0) := ⟨_, rfl⟩
  rw [← hq] at tb7 hR
  clear hq
  have tb8 : ((el1.length : Int) == 0) = decide (el1.length = 0) := by rw [Bool.eq_iff_iff]; simp
  obtain ⟨b8, hq⟩ : ∃ b, b = decide (el1.length = 0) := ⟨_, rfl⟩
  rw [← hq] at tb8 hR
  clear hq
  have tb9 : ((ar1.length : Int) == 0) = decide (ar1.length = 0) := by rw [Bool.eq_iff_iff]; simp
  obtain ⟨b9, hq⟩ : ∃ b, b = decide (ar1.length = 0) := ⟨_, rfl⟩
  rw [← hq] at tb9
  clear hq
  obtain ⟨x0, hq⟩ : ∃ b, b = (aloneB ⟨pn1, ph1, pp1⟩) := ⟨_, rfl⟩
  rw [← hq] at calo hR
  clear hq
  simp only [tyV, tyC] at ch30
  replace ch30 := Lib.hid ch30
  simp only [plV, plC] at ch90
  replace ch90 := Lib.hid ch90
  simp only [rvV, rvC, plC, List.cons_append, List.nil_append] at ch91
  replace ch91 := Lib.hid ch91
  simp only [opV, opC, plC, List.cons_append, List.nil_append] at ch92
  replace ch92 := Lib.hid ch92
  simp only [plV, plC] at calo
  replace calo := Lib.hid calo
  simp only [stV]
  obtain ⟨c1, hc1'⟩ : ∃ c, c = stC (.mk 4 sp1 sn1 (.mk k1 nm1 h1 l1) ⟨pn1, ph1, pp1⟩ ⟨rk1, rh1, ro1, ⟨pnr1, phr1, ppr1⟩, rn1, rr1⟩ ⟨ono1, oio1, ⟨pno1, pho1, ppo1⟩⟩ ht1 th1 he1 el1 ⟨oa1, capa1⟩ ar1) := ⟨_, rfl⟩
  rw [← hc1']
  have e0 : c1[0]? = some (.int .i64 4) := by rw [hc1']; rfl
  have e2 : c1[2]? = some (.string sn1) := by rw [hc1']; rfl
  have e3 : c1[3]? = some (.int .i64 k1) := by rw [hc1']; rfl
  have e4 : c1[4]? = some (.string nm1) := by rw [hc1']; rfl
  have e5 : c1[5]? = some (.slice h1.oa l1.length h1.cap) := by rw [hc1']; rfl
  have e6 : c1[6]? = some (.string pn1) := by rw [hc1']; rfl
  have e7 : c1[7]? = some (.slice ph1.oa pp1.length ph1.cap) := by rw [hc1']; rfl
  have e8 : c1[8]? = some (.int .i64 rk1) := by rw [hc1']; rfl
  have e9 : c1[9]? = some (.slice rh1.oa ro1.length rh1.cap) := by rw [hc1']; rfl
  have e10 : c1[10]? = some (.string pnr1) := by rw [hc1']; rfl
  have e11 : c1[11]? = some (.slice phr1.oa ppr1.length phr1.cap) := by rw [hc1']; rfl
  have e12 : c1[12]? = some (.string rn1) := by rw [hc1']; rfl
  have e13 : c1[13]? = some (.string rr1) := by rw [hc1']; rfl
  have e14 : c1[14]? = some (.bool ono1) := by rw [hc1']; rfl
  have e15 : c1[15]? = some (.int .i64 oio1) := by rw [hc1']; rfl
  have e16 : c1[16]? = some (.string pno1) := by rw [hc1']; rfl
  have e17 : c1[17]? = some (.slice pho1.oa ppo1.length pho1.cap) := by rw [hc1']; rfl
  have e18 : c1[18]? = some (.slice ht1.oa th1.length ht1.cap) := by rw [hc1']; rfl
  have e19 : c1[19]? = some (.slice he1.oa el1.length he1.cap) := by rw [hc1']; rfl
  have e20 : c1[20]? = some (.slice oa1 ar1.length capa1) := by rw [hc1']; rfl
  clear hc1'
  obtain ⟨W0, hW0⟩ : ∃ W, W = w.alloc (.cells c1.toArray 52) := ⟨_, rfl⟩
  have HW0 : Below w.heap.size w W0 := by rw [hW0]; exact (Below.refl _ _).alloc (Nat.le_refl _) _
  replace HW0 := Lib.hid HW0
  have r0 : W0.rangeAt w.heap.size 0 c1 := by rw [hW0]; exact rangeAt_box w c1 52
  have hz1 := Lib.hid (show ∀ w', Below W0.heap.size W0 w' → (w'.cell? ⟨w.heap.size, 2, none⟩ = some (.string sn1) ∧ w'.cell? ⟨w.heap.size, 3, none⟩ = some (.int .i64 k1) ∧ w'.cell? ⟨w.heap.size, 4, none⟩ = some (.string nm1) ∧ w'.cell? ⟨w.heap.size, 5, none⟩ = some (.slice h1.oa l1.length h1.cap)) from fun w' hb => by
    have q : ∀ (n : Nat), 0 + n = n := Nat.zero_add
    exact ⟨rangeAt_below r0 hb 2 _ e2, rangeAt_below r0 hb 3 _ e3, rangeAt_below r0 hb 4 _ e4, rangeAt_below r0 hb 5 _ e5⟩)
  have hz2 := Lib.hid (show ∀ w', Below W0.heap.size W0 w' → (w'.cell? ⟨w.heap.size, 6, none⟩ = some (.string pn1) ∧ w'.cell? ⟨w.heap.size, 7, none⟩ = some (.slice ph1.oa pp1.length ph1.cap)) from fun w' hb => by
    have q : ∀ (n : Nat), 0 + n = n := Nat.zero_add
    exact ⟨rangeAt_below r0 hb 6 _ e6, rangeAt_below r0 hb 7 _ e7⟩)
  have hz3 := Lib.hid (show ∀ w', Below W0.heap.size W0 w' → (w'.cell? ⟨w.heap.size, 8, none⟩ = some (.int .i64 rk1) ∧ w'.cell? ⟨w.heap.size, 9, none⟩ = some (.slice rh1.oa ro1.length rh1.cap) ∧ w'.cell? ⟨w.heap.size, 10, none⟩ = some (.string pnr1) ∧ w'.cell? ⟨w.heap.size, 11, none⟩ = some (.slice phr1.oa ppr1.length phr1.cap) ∧ w'.cell? ⟨w.heap.size, 12, none⟩ = some (.string rn1) ∧ w'.cell? ⟨w.heap.size, 13, none⟩ = some (.string rr1)) from fun w' hb => by
    have q : ∀ (n : Nat), 0 + n = n := Nat.zero_add
    exact ⟨rangeAt_below r0 hb 8 _ e8, rangeAt_below r0 hb 9 _ e9, rangeAt_below r0 hb 10 _ e10, rangeAt_below r0 hb 11 _ e11, rangeAt_below r0 hb 12 _ e12, rangeAt_below r0 hb 13 _ e13⟩)
  have hz4 := Lib.hid (show ∀ w', Below W0.heap.size W0 w' → (w'.cell? ⟨w.heap.size, 14, none⟩ = some (.bool ono1) ∧ w'.cell? ⟨w.heap.size, 15, none⟩ = some (.int .i64 oio1) ∧ w'.cell? ⟨w.heap.size, 16, none⟩ = some (.string pno1) ∧ w'.cell? ⟨w.heap.size, 17, none⟩ = some (.slice pho1.oa ppo1.length pho1.cap)) from fun w' hb => by
    have q : ∀ (n : Nat), 0 + n = n := Nat.zero_add
    exact ⟨rangeAt_below r0 hb 14 _ e14, rangeAt_below r0 hb 15 _ e15, rangeAt_below r0 hb 16 _ e16, rangeAt_below r0 hb 17 _ e17⟩)
  have hz5 := Lib.hid (show ∀ w', Below W0.heap.size W0 w' → (w'.cell? ⟨w.heap.size, 0, none⟩ = some (.int .i64 4) ∧ w'.cell? ⟨w.heap.size, 18, none⟩ = some (.slice ht1.oa th1.length ht1.cap) ∧ w'.cell? ⟨w.heap.size, 19, none⟩ = some (.slice he1.oa el1.length he1.cap) ∧ w'.cell? ⟨w.heap.size, 20, none⟩ = some (.slice oa1 ar1.length capa1)) from fun w' hb => by
    have q : ∀ (n : Nat), 0 + n = n := Nat.zero_add
    exact ⟨rangeAt_below r0 hb 0 _ e0, rangeAt_below r0 hb 18 _ e18, rangeAt_below r0 hb 19 _ e19, rangeAt_below r0 hb 20 _ e20⟩)
  have hz6 := Lib.hid (show ∀ w', Below W0.heap.size W0 w' → (w'.cell? ⟨w.heap.size, 6, none⟩ = some (.string pn1) ∧ w'.cell? ⟨w.heap.size, 7, none⟩ = some (.slice ph1.oa pp1.length ph1.cap)) from fun w' hb => by
    have q : ∀ (n : Nat), 0 + n = n := Nat.zero_add
    exact ⟨rangeAt_below r0 hb 6 _ e6, rangeAt_below r0 hb 7 _ e7⟩)
  have hz7 := Lib.hid (show ∀ w', Below W0.heap.size W0 w' → (w'.cell? ⟨w.heap.size, 20, none⟩ = some (.slice oa1 ar1.length capa1)) from fun w' hb => by
    have q : ∀ (n : Nat), 0 + n = n := Nat.zero_add
    exact rangeAt_below r0 hb 20 _ e20)
  clear r0 e0 e2 e3 e4 e5 e6 e7 e8 e9 e10 e11 e12 e13 e14 e15 e16 e17 e18 e19 e20
  have HR0 := Lib.hid hR
  have HP0 := Lib.hid hp0
  clear hR hp0
  go_enter Tryz.func66, Tryz.ntmps66
  go_upto_region 1 with fail
  rw [← hW0]
  clear hW0
  go_cut [5] from 14 to 21 (fun s wc => s = .bool p0 ∧ Below W0.heap.size W0 wc)
  case first =>
    obtain ⟨z2, z3, z4, z5⟩ := hz1.out _ (Below.refl _ _)
    cases he : emptyN sn1 with
    | false =>
      obtain ⟨e1, e2⟩ := empty_no he
      have HE := Lib.hid (show p0 = false by rw [HP0.out, he]; rfl)
      clear he
      go_wp2_with fail
      go_meet
      exact ⟨by rw [HE.out]; first | done | rfl, Below.refl _ _⟩
    | true =>
      have HE := Lib.hid (show p0 = b3 by rw [HP0.out, he]; rfl)
      obtain rfl := empty_of he
      clear he
      go_wp2_with (go_at_call 30; refine (ch30.out _ HW0.out).mono ?_; rintro e w1 ⟨rfl, hb1'⟩; have K1 := Lib.hid hb1'; clear hb1')
      go_meet
      exact ⟨by rw [HE.out]; first | done | rfl, K1.out⟩
  case rest =>
  obtain ⟨rfl, hk⟩ := hcut
  obtain ⟨v1, rfl⟩ : ∃ v : World, v = wc := ⟨_, rfl⟩
  have K1 := Lib.hid hk
  clear hk HP0
  obtain ⟨y6, y7⟩ := hz2.out _ K1.out
  go_upto_region 18 with (first
    | (go_at_call 90; refine (ch90.out _ (HW0.out.trans (K1.out.mono HW0.out.size))).mono ?_; rintro e v2 ⟨rfl, hb⟩; have K2 := Lib.hid (K1.out.trans (hb.mono K1.out.size)); clear hb; obtain ⟨y8, y9, y10, y11, y12, y13⟩ := hz3.out _ K2.out)
    | (go_at_call 91; refine (ch91.out _ (HW0.out.trans (K2.out.mono HW0.out.size))).mono ?_; rintro e v3 ⟨rfl, hb⟩; have K3 := Lib.hid (K2.out.trans (hb.mono K2.out.size)); clear hb; obtain ⟨y14, y15, y16, y17⟩ := hz4.out _ K3.out)
    | (go_at_call 92; refine (ch92.out _ (HW0.out.trans (K3.out.mono HW0.out.size))).mono ?_; rintro e v4 ⟨rfl, hb⟩; have K4 := Lib.hid (K3.out.trans (hb.mono K3.out.size)); clear hb; obtain ⟨y0, y18, y19, y20⟩ := hz5.out _ K4.out))
  obtain ⟨q4_6, q4_7⟩ := hz6.out _ K4.out
  have hR := HR0.out
  clear HR0 ch30 ch90 ch91 ch92 hz1 hz2 hz3 hz4 hz5
  cases p0 with
  | false =>
    have HR := Lib.hid (show R = false by rw [hR]; first | done | rfl | simp)
    clear hR
    go_wp2_with fail
    go_ret
    exact ⟨by rw [HR.out]; first | done | rfl, HW0.out.trans (K4.out.mono HW0.out.size)⟩
  | true =>
  cases x0 with
  | false =>
    have HR := Lib.hid (show R = false by rw [hR]; first | done | rfl | simp)
    clear hR
    go_wp2_with (first | (go_at_call 94; refine (calo.out _ (HW0.out.trans (K4.out.mono HW0.out.size))).mono ?_; rintro e v5 ⟨rfl, hb⟩; have K5 := Lib.hid (K4.out.trans (hb.mono K4.out.size)); clear hb; obtain ⟨q5_6, q5_7⟩ := hz6.out _ K5.out))
    go_ret
    exact ⟨by rw [HR.out]; first | done | rfl, HW0.out.trans (K5.out.mono HW0.out.size)⟩
  | true =>
  cases b5 with
  | false =>
    have HR := Lib.hid (show R = false by rw [hR]; first | done | rfl | simp)
    clear hR
    go_wp2_with (first | (go_at_call 94; refine (calo.out _ (HW0.out.trans (K4.out.mono HW0.out.size))).mono ?_; rintro e v5 ⟨rfl, hb⟩; have K5 := Lib.hid (K4.out.trans (hb.mono K4.out.size)); clear hb; obtain ⟨q5_6, q5_7⟩ := hz6.out _ K5.out))
    go_ret
    exact ⟨by rw [HR.out]; first | done | rfl, HW0.out.trans (K5.out.mono HW0.out.size)⟩
  | true =>
  cases b6 with
  | false =>
    have HR := Lib.hid (show R = false by rw [hR]; first | done | rfl | simp)
    clear hR
    go_wp2_with (first | (go_at_call 94; refine (calo.out _ (HW0.out.trans (K4.out.mono HW0.out.size))).mono ?_; rintro e v5 ⟨rfl, hb⟩; have K5 := Lib.hid (K4.out.trans (hb.mono K4.out.size)); clear hb; obtain ⟨q5_6, q5_7⟩ := hz6.out _ K5.out))
    go_ret
    exact ⟨by rw [HR.out]; first | done | rfl, HW0.out.trans (K5.out.mono HW0.out.size)⟩
  | true =>
  cases b7 with
  | false =>
    have HR := Lib.hid (show R = false by rw [hR]; first | done | rfl | simp)
    clear hR
    go_wp2_with (first | (go_at_call 94; refine (calo.out _ (HW0.out.trans (K4.out.mono HW0.out.size))).mono ?_; rintro e v5 ⟨rfl, hb⟩; have K5 := Lib.hid (K4.out.trans (hb.mono K4.out.size)); clear hb; obtain ⟨q5_6, q5_7⟩ := hz6.out _ K5.out))
    go_ret
    exact ⟨by rw [HR.out]; first | done | rfl, HW0.out.trans (K5.out.mono HW0.out.size)⟩
  | true =>
  cases b8 with
  | false =>
    have HR := Lib.hid (show R = false by rw [hR]; first | done | rfl | simp)
    clear hR
    go_wp2_with (first | (go_at_call 94; refine (calo.out _ (HW0.out.trans (K4.out.mono HW0.out.size))).mono ?_; rintro e v5 ⟨rfl, hb⟩; have K5 := Lib.hid (K4.out.trans (hb.mono K4.out.size)); clear hb; obtain ⟨q5_6, q5_7⟩ := hz6.out _ K5.out))
    go_ret
    exact ⟨by rw [HR.out]; first | done | rfl, HW0.out.trans (K5.out.mono HW0.out.size)⟩
  | true =>
  have HR := Lib.hid (show R = ar1.all (arOk (d + 1)) by rw [hR]; first | done | rfl | simp)
  clear hR
  go_wp2_with (first | (go_at_call 94; refine (calo.out _ (HW0.out.trans (K4.out.mono HW0.out.size))).mono ?_; rintro e v5 ⟨rfl, hb⟩; have K5 := Lib.hid (K4.out.trans (hb.mono K4.out.size)); clear hb; obtain ⟨q5_6, q5_7⟩ := hz6.out _ K5.out))
  go_loopw [12, 13] (fun u _ wr => ∃ j : Nat, j ≤ ar1.length ∧ u = .int .i64 j ∧ (ar1.drop j).all (arOk (d + 1)) = R ∧ Below W0.heap.size W0 wr) (fun u _ _ => ar1.length - (intOf u).toNat)
  case atStart => exact ⟨0, by omega, rfl, by simpa using HR.out.symm, K5.out⟩
  case round =>
    clear HR
    obtain ⟨j, hj, rfl, hs, hbw⟩ := hrel
    obtain ⟨wo, rfl⟩ : ∃ wo : World, wo = wr := ⟨_, rfl⟩
    have x20 := hz7.out _ hbw
    have HS := Lib.hid hs
    have HK := Lib.hid (HW0.out.trans (hbw.mono HW0.out.size))
    clear hs
    by_cases hjl : j < ar1.length
    · have t1 : decide ((j : Int) < ar1.length) = true := by simp; omega
      obtain ⟨ba, offa, rfl, hxlt, hxc⟩ := a3.out (by omega)
      obtain ⟨x, hx⟩ : ∃ x, ar1[j]? = some x := ⟨_, List.getElem?_eq_getElem hjl⟩
      have hdx : ar1.drop j = x :: ar1.drop (j + 1) := by rw [List.drop_eq_getElem_cons hjl]; rw [List.getElem?_eq_getElem hjl] at hx; rw [Option.some.inj hx]
      have hax := a4.out x (List.mem_of_getElem? hx)
      obtain ⟨av, ab, ah, ay⟩ := x
      have HD := Lib.hid (show ((greatN av && (emptyN ab || smallN ab) && rowOk (d + 1) ay) && (ar1.drop (j + 1)).all (arOk (d + 1))) = R by rw [← HS.out, hdx, List.all_cons, arOk, rowOk_eq])
      have g0 : wo.cell? ⟨ba, offa + j * 3, none⟩ = some (.string av) := (HK.out.cell (p := ⟨ba, offa + j * 3, none⟩) hxlt).trans (by simpa using hxc j _ hx 0 _ rfl)
      have g1 : wo.cell? ⟨ba, offa + j * 3 + 1, none⟩ = some (.string ab) := (HK.out.cell (p := ⟨ba, offa + j * 3 + 1, none⟩) hxlt).trans (by simpa using hxc j _ hx 1 _ rfl)
      have g2 : wo.cell? ⟨ba, offa + j * 3 + 2, none⟩ = some (.slice ah.oa ay.length ah.cap) := (HK.out.cell (p := ⟨ba, offa + j * 3 + 2, none⟩) hxlt).trans (by simpa using hxc j _ hx 2 _ rfl)
      have cBj := Lib.hid (fun W (h : Below w.heap.size w W) => cB.out av ab ah ay W hax h)
      have cGj := Lib.hid (fun W => cG.out av W)
      have cSj := Lib.hid (fun W => cS.out ab W)
      generalize rowOk (d + 1) ay = bB at cBj HD
      generalize greatN av = bG at cGj HD
      generalize hbS : smallN ab = bS at cSj HD
      have HBW := Lib.hid hbw
      clear hx hxc hdx HS hbw hax cB cG cS
      have hnb := alloc_below wo (.cells #[.string av, .string ab, .slice ah.oa ay.length ah.cap] 107)
      have hnx := heap_alloc_new wo (.cells #[.string av, .string ab, .slice ah.oa ay.length ah.cap] 107)
      obtain ⟨W1, hW1⟩ : ∃ W, W = wo.alloc (.cells #[.string av, .string ab, .slice ah.oa ay.length ah.cap] 107) := ⟨_, rfl⟩
      rw [← hW1] at hnb hnx
      obtain ⟨f0, f1, f2, -⟩ := cells3 hnx
      have HN := Lib.hid hnb
      have HX := Lib.hid hnx
      have HBN := Lib.hid (HBW.out.trans (hnb.mono HBW.out.size))
      clear hnb hnx
      go_upto_region 24 with fail
      rw [← hW1]
      clear hW1 g0 g1 g2 hxlt
      cases bG with
      | false =>
        have HF := Lib.hid (show R = false by rw [← HD.out]; simp)
        go_wp2_with (go_at_call 28; refine (cGj.out W1).mono ?_; rintro e u1 ⟨rfl, hb⟩; have Hu1 := Lib.hid (HBN.out.trans (hb.mono HBN.out.size)); have hxn := keepB HX.out hb; obtain ⟨m0, m1, m2, -⟩ := cells3 hxn; have Xu1 := Lib.hid hxn; clear hb hxn)
        go_ret
        exact ⟨by rw [HF.out]; first | done | rfl, HW0.out.trans (Hu1.out.mono HW0.out.size)⟩
      | true =>
      cases he : emptyN ab with
      | true =>
        obtain rfl := empty_of he
        have hD2 := HD.out
        rw [he] at hD2
        clear HD he
        have HD := Lib.hid hD2
        clear hD2
        cases bB with
        | false =>
          have HF := Lib.hid (show R = false by rw [← HD.out]; simp)
          go_wp2_with (first | (go_at_call 28; refine (cGj.out W1).mono ?_; rintro e u1 ⟨rfl, hb⟩; have Hu1 := Lib.hid (HBN.out.trans (hb.mono HBN.out.size)); have hxn := keepB HX.out hb; obtain ⟨m0, m1, m2, -⟩ := cells3 hxn; have Xu1 := Lib.hid hxn; clear hb hxn) | (go_at_call 33; refine (cBj.out u1 (HW0.out.trans (Hu1.out.mono HW0.out.size))).mono ?_; rintro e u3 ⟨rfl, hb⟩; have Hu3 := Lib.hid (Hu1.out.trans (hb.mono Hu1.out.size)); clear hb))
          go_ret
          exact ⟨by rw [HF.out]; first | done | rfl, HW0.out.trans (Hu3.out.mono HW0.out.size)⟩
        | true =>
          go_wp2_with (first | (go_at_call 28; refine (cGj.out W1).mono ?_; rintro e u1 ⟨rfl, hb⟩; have Hu1 := Lib.hid (HBN.out.trans (hb.mono HBN.out.size)); have hxn := keepB HX.out hb; obtain ⟨m0, m1, m2, -⟩ := cells3 hxn; have Xu1 := Lib.hid hxn; clear hb hxn) | (go_at_call 33; refine (cBj.out u1 (HW0.out.trans (Hu1.out.mono HW0.out.size))).mono ?_; rintro e u3 ⟨rfl, hb⟩; have Hu3 := Lib.hid (Hu1.out.trans (hb.mono Hu1.out.size)); clear hb))
          go_roundw
          case rel => exact ⟨j + 1, by omega, by go_num, by rw [← HD.out]; simp, Hu3.out⟩
          case measure => simp [intOf]; omega
      | false =>
        obtain ⟨em1, em2⟩ := empty_no he
        have hD2 := HD.out
        rw [he] at hD2
        clear HD he
        have HD := Lib.hid hD2
        clear hD2
        cases bS with
        | false =>
          have HF := Lib.hid (show R = false by rw [← HD.out]; simp)
          go_wp2_with (first | (go_at_call 28; refine (cGj.out W1).mono ?_; rintro e u1 ⟨rfl, hb⟩; have Hu1 := Lib.hid (HBN.out.trans (hb.mono HBN.out.size)); have hxn := keepB HX.out hb; obtain ⟨m0, m1, m2, -⟩ := cells3 hxn; have Xu1 := Lib.hid hxn; clear hb hxn) | (go_at_call 32; refine (cSj.out u1).mono ?_; rintro e u2 ⟨rfl, hb⟩; have Hu2 := Lib.hid (Hu1.out.trans (hb.mono Hu1.out.size)); have hxn := keepB Xu1.out hb; obtain ⟨n0, n1, n2, -⟩ := cells3 hxn; clear hb hxn))
          go_ret
          exact ⟨by rw [HF.out]; first | done | rfl, HW0.out.trans (Hu2.out.mono HW0.out.size)⟩
        | true =>
        cases bB with
        | false =>
          have HF := Lib.hid (show R = false by rw [← HD.out]; simp)
          go_wp2_with (first | (go_at_call 28; refine (cGj.out W1).mono ?_; rintro e u1 ⟨rfl, hb⟩; have Hu1 := Lib.hid (HBN.out.trans (hb.mono HBN.out.size)); have hxn := keepB HX.out hb; obtain ⟨m0, m1, m2, -⟩ := cells3 hxn; have Xu1 := Lib.hid hxn; clear hb hxn) | (go_at_call 32; refine (cSj.out u1).mono ?_; rintro e u2 ⟨rfl, hb⟩; have Hu2 := Lib.hid (Hu1.out.trans (hb.mono Hu1.out.size)); have hxn := keepB Xu1.out hb; obtain ⟨n0, n1, n2, -⟩ := cells3 hxn; clear hb hxn) | (go_at_call 33; refine (cBj.out u2 (HW0.out.trans (Hu2.out.mono HW0.out.size))).mono ?_; rintro e u3 ⟨rfl, hb⟩; have Hu3 := Lib.hid (Hu2.out.trans (hb.mono Hu2.out.size)); clear hb))
          go_ret
          exact ⟨by rw [HF.out]; first | done | rfl, HW0.out.trans (Hu3.out.mono HW0.out.size)⟩
        | true =>
          go_wp2_with (first | (go_at_call 28; refine (cGj.out W1).mono ?_; rintro e u1 ⟨rfl, hb⟩; have Hu1 := Lib.hid (HBN.out.trans (hb.mono HBN.out.size)); have hxn := keepB HX.out hb; obtain ⟨m0, m1, m2, -⟩ := cells3 hxn; have Xu1 := Lib.hid hxn; clear hb hxn) | (go_at_call 32; refine (cSj.out u1).mono ?_; rintro e u2 ⟨rfl, hb⟩; have Hu2 := Lib.hid (Hu1.out.trans (hb.mono Hu1.out.size)); have hxn := keepB Xu1.out hb; obtain ⟨n0, n1, n2, -⟩ := cells3 hxn; clear hb hxn) | (go_at_call 33; refine (cBj.out u2 (HW0.out.trans (Hu2.out.mono HW0.out.size))).mono ?_; rintro e u3 ⟨rfl, hb⟩; have Hu3 := Lib.hid (Hu2.out.trans (hb.mono Hu2.out.size)); clear hb))
          go_roundw
          case rel => exact ⟨j + 1, by omega, by go_num, by rw [← HD.out]; simp, Hu3.out⟩
          case measure => simp [intOf]; omega
    · have t1 : decide ((j : Int) < ar1.length) = false := by simp; omega
      obtain rfl : j = ar1.length := by omega
      have HZ := Lib.hid (show R = true by rw [← HS.out, List.drop_length]; rfl)
      clear HS
      go_wp2
      go_ret
      exact ⟨by rw [HZ.out]; first | done | rfl, HK.out⟩

set_option maxRecDepth 100000 in
set_option maxHeartbeats 64000000 in
theorem rValidStmt_X (n d : Nat) (_ : d ≤ 60) (sk1 sp1 : Int) (sn1 : ByteArray) (k1 : Int) (nm1 : ByteArray) (h1 : Hd) (l1 : List Ty5) (pn1 : ByteArray) (ph1 : Hd) (pp1 : List ByteArray) (rk1 : Int) (rh1 : Hd) (ro1 : List Op5) (pnr1 : ByteArray) (phr1 : Hd) (ppr1 : List ByteArray) (rn1 rr1 : ByteArray) (ono1 : Bool) (oio1 : Int) (pno1 : ByteArray) (pho1 : Hd) (ppo1 : List ByteArray) (ht1 : Hd) (th1 : List St5) (he1 : Hd) (el1 : List St5) (ha1 : Hd) (ar1 : List Ar5) (w : World) (q0 : ¬ sk1 = 0) (q1 : ¬ sk1 = 1) (q2 : ¬ sk1 = 2) (q3 : ¬ sk1 = 3) (q4 : ¬ sk1 = 4) (q5 : ¬ sk1 = 5) (q6 : ¬ sk1 = 6) (q7 : ¬ sk1 = 7) (q8 : ¬ sk1 = 8) (_ : StH (n + 1) w (.mk sk1 sp1 sn1 (.mk k1 nm1 h1 l1) ⟨pn1, ph1, pp1⟩ ⟨rk1, rh1, ro1, ⟨pnr1, phr1, ppr1⟩, rn1, rr1⟩ ⟨ono1, oio1, ⟨pno1, pho1, ppo1⟩⟩ ht1 th1 he1 el1 ha1 ar1))
    (_ : ∀ (d : Nat), d ≤ 61 → ∀ (h : Hd) (l : List St5) (w : World), Row w h 21 l stC (StH n w) → Calls Tryz.prog 33 #[.slice h.oa l.length h.cap, .int .i64 d] w fun e w' => e = .returned (.bool (rowOk d l)) ∧ Below w.heap.size w w') :
    Calls Tryz.prog 66 #[stV (.mk sk1 sp1 sn1 (.mk k1 nm1 h1 l1) ⟨pn1, ph1, pp1⟩ ⟨rk1, rh1, ro1, ⟨pnr1, phr1, ppr1⟩, rn1, rr1⟩ ⟨ono1, oio1, ⟨pno1, pho1, ppo1⟩⟩ ht1 th1 he1 el1 ha1 ar1), .int .i64 d] w fun e w' => e = .returned (.bool (stOk d (.mk sk1 sp1 sn1 (.mk k1 nm1 h1 l1) ⟨pn1, ph1, pp1⟩ ⟨rk1, rh1, ro1, ⟨pnr1, phr1, ppr1⟩, rn1, rr1⟩ ⟨ono1, oio1, ⟨pno1, pho1, ppo1⟩⟩ ht1 th1 he1 el1 ha1 ar1))) ∧ Below w.heap.size w w' := by
  obtain ⟨R, hR⟩ : ∃ R, R = stOk d (.mk sk1 sp1 sn1 (.mk k1 nm1 h1 l1) ⟨pn1, ph1, pp1⟩ ⟨rk1, rh1, ro1, ⟨pnr1, phr1, ppr1⟩, rn1, rr1⟩ ⟨ono1, oio1, ⟨pno1, pho1, ppo1⟩⟩ ht1 th1 he1 el1 ha1 ar1) := ⟨_, rfl⟩
  rw [← hR]
  replace hR : R = false := by rw [hR, stOk, if_neg q0, if_neg q1, if_neg q2, if_neg q3, if_neg q4, if_neg (by simp [q5, q6, q7]), if_neg q8]
  have s0 : (sk1 == 0) = false := by simpa using q0
  have s1 : (sk1 == 1) = false := by simpa using q1
  have s2 : (sk1 == 2) = false := by simpa using q2
  have s3 : (sk1 == 3) = false := by simpa using q3
  have s4 : (sk1 == 4) = false := by simpa using q4
  have s5 : (sk1 == 5) = false := by simpa using q5
  have s6 : (sk1 == 6) = false := by simpa using q6
  have s7 : (sk1 == 7) = false := by simpa using q7
  have s8 : (sk1 == 8) = false := by simpa using q8
  clear q0 q1 q2 q3 q4 q5 q6 q7 q8
  have ch30 : ∀ W, Below w.heap.size w W → Calls Tryz.prog 30 #[tyV (.mk k1 nm1 h1 l1)] W fun e w' => e = .returned (.bool (tyEq (.mk k1 nm1 h1 l1) tyZ)) ∧ Below W.heap.size W w' := fun W _ => rnoTy_any _ W
  have ch90 : ∀ W, Below w.heap.size w W → Calls Tryz.prog 90 #[plV ⟨pn1, ph1, pp1⟩] W fun e w' => e = .returned (.bool (noPl ⟨pn1, ph1, pp1⟩)) ∧ Below W.heap.size W w' := fun W _ => rnoPlace_any _ W
  have ch91 : ∀ W, Below w.heap.size w W → Calls Tryz.prog 91 #[rvV ⟨rk1, rh1, ro1, ⟨pnr1, phr1, ppr1⟩, rn1, rr1⟩] W fun e w' => e = .returned (.bool (rvEq ⟨rk1, rh1, ro1, ⟨pnr1, phr1, ppr1⟩, rn1, rr1⟩ rvZ)) ∧ Below W.heap.size W w' := fun W _ => rnoRv_any _ W
  have ch92 : ∀ W, Below w.heap.size w W → Calls Tryz.prog 92 #[opV ⟨ono1, oio1, ⟨pno1, pho1, ppo1⟩⟩] W fun e w' => e = .returned (.bool (opEq ⟨ono1, oio1, ⟨pno1, pho1, ppo1⟩⟩ opZ)) ∧ Below W.heap.size W w' := fun W _ => rnoOper_any _ W
  obtain ⟨b3, hb3⟩ : ∃ b, b = tyEq (.mk k1 nm1 h1 l1) tyZ := ⟨_, rfl⟩
  rw [← hb3] at ch30
  clear hb3
  obtain ⟨p0, hp0⟩ : ∃ b, b = (emptyN sn1 && b3) := ⟨_, rfl⟩
  obtain ⟨b4, hq⟩ : ∃ b, b = (noPl ⟨pn1, ph1, pp1⟩) := ⟨_, rfl⟩
  rw [← hq] at ch90
  clear hq
  obtain ⟨b5, hq⟩ : ∃ b, b = (rvEq ⟨rk1, rh1, ro1, ⟨pnr1, phr1, ppr1⟩, rn1, rr1⟩ rvZ) := ⟨_, rfl⟩
  rw [← hq] at ch91
  clear hq
  obtain ⟨b6, hq⟩ : ∃ b, b = (opEq ⟨ono1, oio1, ⟨pno1, pho1, ppo1⟩⟩ opZ) := ⟨_, rfl⟩
  rw [← hq] at ch92
  clear hq
  have tb7 : ((th1.length : Int) == 0) = decide (th1.length = 0) := by rw [Bool.eq_iff_iff]; simp
  obtain ⟨b7, hq⟩ : ∃ b, b = decide (th1.length = 0) := ⟨_, rfl⟩
  rw [← hq] at tb7
  clear hq
  have tb8 : ((el1.length : Int) == 0) = decide (el1.length = 0) := by rw [Bool.eq_iff_iff]; simp
  obtain ⟨b8, hq⟩ : ∃ b, b = decide (el1.length = 0) := ⟨_, rfl⟩
  rw [← hq] at tb8
  clear hq
  have tb9 : ((ar1.length : Int) == 0) = decide (ar1.length = 0) := by rw [Bool.eq_iff_iff]; simp
  obtain ⟨b9, hq⟩ : ∃ b, b = decide (ar1.length = 0) := ⟨_, rfl⟩
  rw [← hq] at tb9
  clear hq
  simp only [tyV, tyC] at ch30
  replace ch30 := Lib.hid ch30
  simp only [plV, plC] at ch90
  replace ch90 := Lib.hid ch90
  simp only [rvV, rvC, plC, List.cons_append, List.nil_append] at ch91
  replace ch91 := Lib.hid ch91
  simp only [opV, opC, plC, List.cons_append, List.nil_append] at ch92
  replace ch92 := Lib.hid ch92
  simp only [stV]
  obtain ⟨c1, hc1'⟩ : ∃ c, c = stC (.mk sk1 sp1 sn1 (.mk k1 nm1 h1 l1) ⟨pn1, ph1, pp1⟩ ⟨rk1, rh1, ro1, ⟨pnr1, phr1, ppr1⟩, rn1, rr1⟩ ⟨ono1, oio1, ⟨pno1, pho1, ppo1⟩⟩ ht1 th1 he1 el1 ha1 ar1) := ⟨_, rfl⟩
  rw [← hc1']
  have e0 : c1[0]? = some (.int .i64 sk1) := by rw [hc1']; rfl
  have e2 : c1[2]? = some (.string sn1) := by rw [hc1']; rfl
  have e3 : c1[3]? = some (.int .i64 k1) := by rw [hc1']; rfl
  have e4 : c1[4]? = some (.string nm1) := by rw [hc1']; rfl
  have e5 : c1[5]? = some (.slice h1.oa l1.length h1.cap) := by rw [hc1']; rfl
  have e6 : c1[6]? = some (.string pn1) := by rw [hc1']; rfl
  have e7 : c1[7]? = some (.slice ph1.oa pp1.length ph1.cap) := by rw [hc1']; rfl
  have e8 : c1[8]? = some (.int .i64 rk1) := by rw [hc1']; rfl
  have e9 : c1[9]? = some (.slice rh1.oa ro1.length rh1.cap) := by rw [hc1']; rfl
  have e10 : c1[10]? = some (.string pnr1) := by rw [hc1']; rfl
  have e11 : c1[11]? = some (.slice phr1.oa ppr1.length phr1.cap) := by rw [hc1']; rfl
  have e12 : c1[12]? = some (.string rn1) := by rw [hc1']; rfl
  have e13 : c1[13]? = some (.string rr1) := by rw [hc1']; rfl
  have e14 : c1[14]? = some (.bool ono1) := by rw [hc1']; rfl
  have e15 : c1[15]? = some (.int .i64 oio1) := by rw [hc1']; rfl
  have e16 : c1[16]? = some (.string pno1) := by rw [hc1']; rfl
  have e17 : c1[17]? = some (.slice pho1.oa ppo1.length pho1.cap) := by rw [hc1']; rfl
  have e18 : c1[18]? = some (.slice ht1.oa th1.length ht1.cap) := by rw [hc1']; rfl
  have e19 : c1[19]? = some (.slice he1.oa el1.length he1.cap) := by rw [hc1']; rfl
  have e20 : c1[20]? = some (.slice ha1.oa ar1.length ha1.cap) := by rw [hc1']; rfl
  clear hc1'
  obtain ⟨W0, hW0⟩ : ∃ W, W = w.alloc (.cells c1.toArray 52) := ⟨_, rfl⟩
  have HW0 : Below w.heap.size w W0 := by rw [hW0]; exact (Below.refl _ _).alloc (Nat.le_refl _) _
  replace HW0 := Lib.hid HW0
  have r0 : W0.rangeAt w.heap.size 0 c1 := by rw [hW0]; exact rangeAt_box w c1 52
  have hz1 := Lib.hid (show ∀ w', Below W0.heap.size W0 w' → (w'.cell? ⟨w.heap.size, 2, none⟩ = some (.string sn1) ∧ w'.cell? ⟨w.heap.size, 3, none⟩ = some (.int .i64 k1) ∧ w'.cell? ⟨w.heap.size, 4, none⟩ = some (.string nm1) ∧ w'.cell? ⟨w.heap.size, 5, none⟩ = some (.slice h1.oa l1.length h1.cap)) from fun w' hb => by
    have q : ∀ (n : Nat), 0 + n = n := Nat.zero_add
    exact ⟨rangeAt_below r0 hb 2 _ e2, rangeAt_below r0 hb 3 _ e3, rangeAt_below r0 hb 4 _ e4, rangeAt_below r0 hb 5 _ e5⟩)
  have hz2 := Lib.hid (show ∀ w', Below W0.heap.size W0 w' → (w'.cell? ⟨w.heap.size, 6, none⟩ = some (.string pn1) ∧ w'.cell? ⟨w.heap.size, 7, none⟩ = some (.slice ph1.oa pp1.length ph1.cap)) from fun w' hb => by
    have q : ∀ (n : Nat), 0 + n = n := Nat.zero_add
    exact ⟨rangeAt_below r0 hb 6 _ e6, rangeAt_below r0 hb 7 _ e7⟩)
  have hz3 := Lib.hid (show ∀ w', Below W0.heap.size W0 w' → (w'.cell? ⟨w.heap.size, 8, none⟩ = some (.int .i64 rk1) ∧ w'.cell? ⟨w.heap.size, 9, none⟩ = some (.slice rh1.oa ro1.length rh1.cap) ∧ w'.cell? ⟨w.heap.size, 10, none⟩ = some (.string pnr1) ∧ w'.cell? ⟨w.heap.size, 11, none⟩ = some (.slice phr1.oa ppr1.length phr1.cap) ∧ w'.cell? ⟨w.heap.size, 12, none⟩ = some (.string rn1) ∧ w'.cell? ⟨w.heap.size, 13, none⟩ = some (.string rr1)) from fun w' hb => by
    have q : ∀ (n : Nat), 0 + n = n := Nat.zero_add
    exact ⟨rangeAt_below r0 hb 8 _ e8, rangeAt_below r0 hb 9 _ e9, rangeAt_below r0 hb 10 _ e10, rangeAt_below r0 hb 11 _ e11, rangeAt_below r0 hb 12 _ e12, rangeAt_below r0 hb 13 _ e13⟩)
  have hz4 := Lib.hid (show ∀ w', Below W0.heap.size W0 w' → (w'.cell? ⟨w.heap.size, 14, none⟩ = some (.bool ono1) ∧ w'.cell? ⟨w.heap.size, 15, none⟩ = some (.int .i64 oio1) ∧ w'.cell? ⟨w.heap.size, 16, none⟩ = some (.string pno1) ∧ w'.cell? ⟨w.heap.size, 17, none⟩ = some (.slice pho1.oa ppo1.length pho1.cap)) from fun w' hb => by
    have q : ∀ (n : Nat), 0 + n = n := Nat.zero_add
    exact ⟨rangeAt_below r0 hb 14 _ e14, rangeAt_below r0 hb 15 _ e15, rangeAt_below r0 hb 16 _ e16, rangeAt_below r0 hb 17 _ e17⟩)
  have hz5 := Lib.hid (show ∀ w', Below W0.heap.size W0 w' → (w'.cell? ⟨w.heap.size, 0, none⟩ = some (.int .i64 sk1) ∧ w'.cell? ⟨w.heap.size, 18, none⟩ = some (.slice ht1.oa th1.length ht1.cap) ∧ w'.cell? ⟨w.heap.size, 19, none⟩ = some (.slice he1.oa el1.length he1.cap) ∧ w'.cell? ⟨w.heap.size, 20, none⟩ = some (.slice ha1.oa ar1.length ha1.cap)) from fun w' hb => by
    have q : ∀ (n : Nat), 0 + n = n := Nat.zero_add
    exact ⟨rangeAt_below r0 hb 0 _ e0, rangeAt_below r0 hb 18 _ e18, rangeAt_below r0 hb 19 _ e19, rangeAt_below r0 hb 20 _ e20⟩)
  clear r0 e0 e2 e3 e4 e5 e6 e7 e8 e9 e10 e11 e12 e13 e14 e15 e16 e17 e18 e19 e20
  have HR0 := Lib.hid hR
  have HP0 := Lib.hid hp0
  clear hR hp0
  go_enter Tryz.func66, Tryz.ntmps66
  go_upto_region 1 with fail
  rw [← hW0]
  clear hW0
  go_cut [5] from 14 to 21 (fun s wc => s = .bool p0 ∧ Below W0.heap.size W0 wc)
  case first =>
    obtain ⟨z2, z3, z4, z5⟩ := hz1.out _ (Below.refl _ _)
    cases he : emptyN sn1 with
    | false =>
      obtain ⟨e1, e2⟩ := empty_no he
      have HE := Lib.hid (show p0 = false by rw [HP0.out, he]; rfl)
      clear he
      go_wp2_with fail
      go_meet
      exact ⟨by rw [HE.out]; first | done | rfl, Below.refl _ _⟩
    | true =>
      have HE := Lib.hid (show p0 = b3 by rw [HP0.out, he]; rfl)
      obtain rfl := empty_of he
      clear he
      go_wp2_with (go_at_call 30; refine (ch30.out _ HW0.out).mono ?_; rintro e w1 ⟨rfl, hb1'⟩; have K1 := Lib.hid hb1'; clear hb1')
      go_meet
      exact ⟨by rw [HE.out]; first | done | rfl, K1.out⟩
  case rest =>
  obtain ⟨rfl, hk⟩ := hcut
  obtain ⟨v1, rfl⟩ : ∃ v : World, v = wc := ⟨_, rfl⟩
  have K1 := Lib.hid hk
  clear hk HP0
  obtain ⟨y6, y7⟩ := hz2.out _ K1.out
  go_wp2_with (first
    | (go_at_call 90; refine (ch90.out _ (HW0.out.trans (K1.out.mono HW0.out.size))).mono ?_; rintro e v2 ⟨rfl, hb⟩; have K2 := Lib.hid (K1.out.trans (hb.mono K1.out.size)); clear hb; obtain ⟨y8, y9, y10, y11, y12, y13⟩ := hz3.out _ K2.out)
    | (go_at_call 91; refine (ch91.out _ (HW0.out.trans (K2.out.mono HW0.out.size))).mono ?_; rintro e v3 ⟨rfl, hb⟩; have K3 := Lib.hid (K2.out.trans (hb.mono K2.out.size)); clear hb; obtain ⟨y14, y15, y16, y17⟩ := hz4.out _ K3.out)
    | (go_at_call 92; refine (ch92.out _ (HW0.out.trans (K3.out.mono HW0.out.size))).mono ?_; rintro e v4 ⟨rfl, hb⟩; have K4 := Lib.hid (K3.out.trans (hb.mono K3.out.size)); clear hb; obtain ⟨y0, y18, y19, y20⟩ := hz5.out _ K4.out))
  go_ret
  exact ⟨by rw [HR0.out]; first | done | rfl, HW0.out.trans (K4.out.mono HW0.out.size)⟩

set_option maxRecDepth 100000 in
set_option maxHeartbeats 8000000 in
theorem rValidBlock_of (n : Nat) (ihS : ∀ (d : Nat), d ≤ 60 → ∀ (x : St5) (w : World), StH n w x → Calls Tryz.prog 66 #[stV x, .int .i64 d] w fun e w' => e = .returned (.bool (stOk d x)) ∧ Below w.heap.size w w') (d : Nat) (_ : d ≤ 61) (ha : Hd) (la : List St5) (w : World) (hA : Row w ha 21 la stC (StH n w)) :
    Calls Tryz.prog 33 #[.slice ha.oa la.length ha.cap, .int .i64 d] w fun e w' => e = .returned (.bool (rowOk d la)) ∧ Below w.heap.size w w' := by
  obtain ⟨oa, capa⟩ := ha
  obtain ⟨ha1, ha2, ha3, ha4⟩ := hA
  dsimp only at ha1 ha2 ha3 ⊢
  unfold maxLen at ha2
  replace ha3 := Lib.hid ha3
  replace ha4 := Lib.hid ha4
  obtain ⟨R, hR⟩ : ∃ R, R = rowOk d la := ⟨_, rfl⟩
  rw [← hR]
  replace hR : R = (decide (d ≤ 60) && la.all (stOk d)) := hR
  by_cases hd60 : d ≤ 60
  · have HR := Lib.hid (show R = la.all (stOk d) by rw [hR, decide_eq_true hd60]; rfl)
    have hS := Lib.hid (ihS d hd60)
    have tg : ¬ (d : Int) > 60 := by omega
    clear hR ihS
    go_enter Tryz.func33, Tryz.ntmps33
    go_wp2_with fail
    go_loopw [5, 6] (fun u _ wr => ∃ j : Nat, j ≤ la.length ∧ u = .int .i64 j ∧ (la.drop j).all (stOk d) = R ∧ Below w.heap.size w wr) (fun u _ _ => la.length - (intOf u).toNat)
    case atStart => exact ⟨0, by omega, rfl, by simpa using HR.out.symm, Below.refl _ _⟩
    case round =>
      clear HR
      obtain ⟨j, hj, rfl, hs, hbw⟩ := hrel
      obtain ⟨wo, rfl⟩ : ∃ wo : World, wo = wr := ⟨_, rfl⟩
      have HS := Lib.hid hs
      clear hs
      by_cases hjl : j < la.length
      · have t1 : decide ((j : Int) < la.length) = true := by simp; omega
        obtain ⟨ba, offa, rfl, hxlt, hxc⟩ := ha3.out (by omega)
        obtain ⟨x, hx⟩ : ∃ x, la[j]? = some x := ⟨_, List.getElem?_eq_getElem hjl⟩
        have hdx : la.drop j = x :: la.drop (j + 1) := by rw [List.drop_eq_getElem_cons hjl]; rw [List.getElem?_eq_getElem hjl] at hx; rw [Option.some.inj hx]
        have HD := Lib.hid (show (stOk d x && (la.drop (j + 1)).all (stOk d)) = R by rw [← HS.out, hdx, List.all_cons])
        have hc := hS.out x wo (StH.below (ha4.out x (List.mem_of_getElem? hx)) hbw)
        have gx : wo.rangeAt ba (offa + j * 21) (stC x) := fun i v hv => (hbw.cell (p := ⟨ba, offa + j * 21 + i, none⟩) hxlt).trans (hxc j x hx i v hv)
        obtain ⟨bv, hbv⟩ : ∃ b, b = stOk d x := ⟨_, rfl⟩
        rw [← hbv] at hc HD
        clear hbv
        have hix := stC_info x
        unfold stV at hc
        generalize stC x = cx at gx hc hix
        replace hc := Lib.hid hc
        replace gx := Lib.hid gx
        replace hix := Lib.hid hix
        have HBW := Lib.hid hbw
        clear hx hxc hdx HS hbw hxlt
        cases bv with
        | true =>
          go_wp2_with (first
            | (refine wpList_load_mid rfl 52 (.tmp 17) rfl ba (offa + j * 21) rfl cx _ gx.out Tryz.underlying52 rfl hix.out ?_)
            | (go_at_call 66; refine hc.out.mono ?_; rintro e w1 ⟨rfl, hb⟩; have HB1 := Lib.hid (HBW.out.trans (hb.mono HBW.out.size)); clear hb))
          go_roundw
          case rel => exact ⟨j + 1, by omega, by go_num, by rw [← HD.out]; simp, HB1.out⟩
          case measure => simp [intOf]; omega
        | false =>
          go_wp2_with (first
            | (refine wpList_load_mid rfl 52 (.tmp 17) rfl ba (offa + j * 21) rfl cx _ gx.out Tryz.underlying52 rfl hix.out ?_)
            | (go_at_call 66; refine hc.out.mono ?_; rintro e w1 ⟨rfl, hb⟩; have HB1 := Lib.hid (HBW.out.trans (hb.mono HBW.out.size)); clear hb))
          go_ret
          exact ⟨by rw [← HD.out]; first | done | rfl, HB1.out⟩
      · have t1 : decide ((j : Int) < la.length) = false := by simp; omega
        obtain rfl : j = la.length := by omega
        have HZ := Lib.hid (show true = R by rw [← HS.out, List.drop_length]; rfl)
        go_wp2
        go_ret
        exact ⟨by rw [← HZ.out]; first | done | rfl, hbw⟩
  · have HR := Lib.hid (show R = false by rw [hR, decide_eq_false hd60]; rfl)
    have tg : (d : Int) > 60 := by omega
    have tg2 : 60 < d := by omega
    clear hR hd60
    go_enter Tryz.func33, Tryz.ntmps33
    go_wp2_with fail
    go_ret
    exact ⟨by rw [HR.out]; first | done | rfl, Below.refl _ _⟩

theorem rValidStmt_step (n d : Nat) (hd : d ≤ 60) (x : St5) (w : World) (hA : StH (n + 1) w x)
    (ihB : ∀ (d : Nat), d ≤ 61 → ∀ (h : Hd) (l : List St5) (w : World), Row w h 21 l stC (StH n w) → Calls Tryz.prog 33 #[.slice h.oa l.length h.cap, .int .i64 d] w fun e w' => e = .returned (.bool (rowOk d l)) ∧ Below w.heap.size w w') :
    Calls Tryz.prog 66 #[stV x, .int .i64 d] w fun e w' => e = .returned (.bool (stOk d x)) ∧ Below w.heap.size w w' := by
  obtain ⟨k, pos, nm, ⟨tk, tn, th_, tl⟩, ⟨pn, ph, pp⟩, ⟨rk, rh, ro, ⟨rpn, rph, rpp⟩, rn, rr⟩, ⟨on, oi, ⟨opn, oph, opp⟩⟩, ht, th, he, el, ha, ar⟩ := x
  by_cases q0 : k = 0
  · subst q0
    exact rValidStmt_0 n d hd pos nm tk tn th_ tl pn ph pp rk rh ro rpn rph rpp rn rr on oi opn oph opp ht th he el ha ar w hA ihB
  by_cases q1 : k = 1
  · subst q1
    exact rValidStmt_1 n d hd pos nm tk tn th_ tl pn ph pp rk rh ro rpn rph rpp rn rr on oi opn oph opp ht th he el ha ar w hA ihB
  by_cases q2 : k = 2
  · subst q2
    exact rValidStmt_2 n d hd pos nm tk tn th_ tl pn ph pp rk rh ro rpn rph rpp rn rr on oi opn oph opp ht th he el ha ar w hA ihB
  by_cases q3 : k = 3
  · subst q3
    exact rValidStmt_3 n d hd pos nm tk tn th_ tl pn ph pp rk rh ro rpn rph rpp rn rr on oi opn oph opp ht th he el ha ar w hA ihB
  by_cases q4 : k = 4
  · subst q4
    exact rValidStmt_4 n d hd pos nm tk tn th_ tl pn ph pp rk rh ro rpn rph rpp rn rr on oi opn oph opp ht th he el ha ar w hA ihB
  by_cases q5 : k = 5
  · subst q5
    exact rValidStmt_5 n d hd pos nm tk tn th_ tl pn ph pp rk rh ro rpn rph rpp rn rr on oi opn oph opp ht th he el ha ar w hA ihB
  by_cases q6 : k = 6
  · subst q6
    exact rValidStmt_6 n d hd pos nm tk tn th_ tl pn ph pp rk rh ro rpn rph rpp rn rr on oi opn oph opp ht th he el ha ar w hA ihB
  by_cases q7 : k = 7
  · subst q7
    exact rValidStmt_7 n d hd pos nm tk tn th_ tl pn ph pp rk rh ro rpn rph rpp rn rr on oi opn oph opp ht th he el ha ar w hA ihB
  by_cases q8 : k = 8
  · subst q8
    exact rValidStmt_8 n d hd pos nm tk tn th_ tl pn ph pp rk rh ro rpn rph rpp rn rr on oi opn oph opp ht th he el ha ar w hA ihB
  exact rValidStmt_X n d hd k pos nm tk tn th_ tl pn ph pp rk rh ro rpn rph rpp rn rr on oi opn oph opp ht th he el ha ar w q0 q1 q2 q3 q4 q5 q6 q7 q8 hA ihB

theorem rValidStmt_block : ∀ n : Nat, ∀ (d : Nat), d ≤ 60 → ∀ (x : St5) (w : World), StH n w x → Calls Tryz.prog 66 #[stV x, .int .i64 d] w fun e w' => e = .returned (.bool (stOk d x)) ∧ Below w.heap.size w w'
  | 0 => fun _ _ _ _ h => by unfold StH at h; exact h.elim
  | n + 1 => fun d hd x w hx => rValidStmt_step n d hd x w hx fun d' hd' h l w' hl => rValidBlock_of n (rValidStmt_block n) d' hd' h l w' hl
theorem rValidBlock_any (n d : Nat) (hd : d ≤ 61) (h : Hd) (l : List St5) (w : World) (hL : Row w h 21 l stC (StH n w)) :
    Calls Tryz.prog 33 #[.slice h.oa l.length h.cap, .int .i64 d] w fun e w' => e = .returned (.bool (rowOk d l)) ∧ Below w.heap.size w w' := rValidBlock_of n (rValidStmt_block n) d hd h l w hL

set_option maxRecDepth 100000 in
set_option maxHeartbeats 64000000 in
theorem rValid_any (n : Nat) (s : So5) (w : World) (hS : SoH n w s) : Calls Tryz.prog 11 #[soV s] w fun e w' => e = .returned (.bool (soOk s)) ∧ Below w.heap.size w w' := by
  obtain ⟨⟨sa, sc⟩, ss, ⟨ea, ec⟩, es, ⟨fa, fc⟩, fs⟩ := s
  obtain ⟨⟨s1, s2, s3, s4⟩, ⟨e1, e2, e3, e4⟩, f1, f2, f3, f4⟩ := hS
  dsimp only at s1 s2 s3 s4 e1 e2 e3 e4 f1 f2 f3 f4
  unfold maxLen at s2 e2 f2
  replace s3 := Lib.hid s3
  replace s4 := Lib.hid s4
  replace e3 := Lib.hid e3
  replace e4 := Lib.hid e4
  replace f3 := Lib.hid f3
  replace f4 := Lib.hid f4
  simp only [soV]
  obtain ⟨R, hR⟩ : ∃ R, R = soOk ⟨⟨sa, sc⟩, ss, ⟨ea, ec⟩, es, ⟨fa, fc⟩, fs⟩ := ⟨_, rfl⟩
  rw [← hR]
  replace hR : R = (ss.all suOk && es.all enOk && fs.all fnOk) := hR
  obtain ⟨r1, hr1⟩ : ∃ r, r = ss.all suOk := ⟨_, rfl⟩
  obtain ⟨r2, hr2⟩ : ∃ r, r = es.all enOk := ⟨_, rfl⟩
  obtain ⟨r3, hr3⟩ : ∃ r, r = fs.all fnOk := ⟨_, rfl⟩
  rw [← hr1, ← hr2, ← hr3] at hR
  have HR := Lib.hid hR
  have HR1 := Lib.hid hr1
  have HR2 := Lib.hid hr2
  have HR3 := Lib.hid hr3
  clear hR hr1 hr2 hr3
  obtain ⟨W0, hW0⟩ : ∃ W, W = w.alloc (.cells #[.slice sa ss.length sc, .slice ea es.length ec, .slice fa fs.length fc] 26) := ⟨_, rfl⟩
  have hb0 : Below w.heap.size w W0 := by rw [hW0]; exact alloc_below _ _
  have hx0 : W0.heap[w.heap.size]? = some (.cells #[.slice sa ss.length sc, .slice ea es.length ec, .slice fa fs.length fc] 26) := by rw [hW0, heap_alloc_new]
  have HB0 := Lib.hid hb0
  have HX0 := Lib.hid hx0
  clear hb0 hx0
  go_enter Tryz.func11, Tryz.ntmps11
  go_wp2_with fail
  rw [← hW0]
  clear hW0
  go_loopw [3] (fun u wr => ∃ j : Nat, j ≤ ss.length ∧ u = .int .i64 j ∧ (ss.drop j).all suOk = r1 ∧ Below w.heap.size w wr ∧ wr.heap[w.heap.size]? = some (.cells #[.slice sa ss.length sc, .slice ea es.length ec, .slice fa fs.length fc] 26)) (fun u _ => ss.length - (intOf u).toNat)
  case atStart => exact ⟨0, by omega, rfl, by simpa using HR1.out.symm, HB0.out, HX0.out⟩
  case round =>
    clear HB0 HX0 HR1
    obtain ⟨j, hj, rfl, hs, hbw, hx⟩ := hrel
    obtain ⟨wo, rfl⟩ : ∃ wo : World, wo = wr := ⟨_, rfl⟩
    obtain ⟨y0, y1, y2, -, hlt0⟩ := cells3 hx
    have HS := Lib.hid hs
    have HX := Lib.hid hx
    have HBW := Lib.hid hbw
    clear hs hx hbw hlt0
    by_cases hjl : j < ss.length
    · have t1 : decide ((j : Int) < ss.length) = true := by simp; omega
      obtain ⟨ba, offa, rfl, hlt, hcell⟩ := s3.out (by omega)
      obtain ⟨x, hxj⟩ : ∃ x, ss[j]? = some x := ⟨_, List.getElem?_eq_getElem hjl⟩
      have hdx : ss.drop j = x :: ss.drop (j + 1) := by rw [List.drop_eq_getElem_cons hjl]; rw [List.getElem?_eq_getElem hjl] at hxj; rw [Option.some.inj hxj]
      have hd1 : (suOk x && (ss.drop (j + 1)).all suOk) = r1 := by rw [← HS.out, hdx, List.all_cons]
      have hmem := s4.out x (List.mem_of_getElem? hxj)
      obtain ⟨un, ud, uh, uf, up⟩ := x
      simp only [suOk] at hd1
      have HD := Lib.hid hd1
      have hg := Lib.hid (fun W => rgreat_any un W)
      have hf := Lib.hid (fun W (hW : Below w.heap.size w W) => rvalidFields_any n uh uf W (Row.below hmem hW fun _ _ hx => FdH.below hx hW))
      generalize greatN un = b1 at hg HD
      generalize uf.all fdOk = b2 at hf HD
      have hqq : ∀ w', Below w.heap.size w w' → w'.cell? ⟨ba, offa + j * 4, none⟩ = some (.string un) ∧ w'.cell? ⟨ba, offa + j * 4 + 2, none⟩ = some (.slice uh.oa uf.length uh.cap) := fun w' h => ⟨(h.cell (p := ⟨ba, offa + j * 4, none⟩) hlt).trans (by simpa using hcell j _ hxj 0 _ rfl), (h.cell (p := ⟨ba, offa + j * 4 + 2, none⟩) hlt).trans (by simpa using hcell j _ hxj 2 _ rfl)⟩
      obtain ⟨q0, q1⟩ := hqq wo HBW.out
      have HQ := Lib.hid hqq
      clear hxj hcell hmem hqq hdx hd1 HS
      cases b1 with
      | false =>
        go_wp2_with ((go_at_call 28; refine (hg.out _).mono ?_; rintro e v1 ⟨rfl, hb⟩; have Hv1 := Lib.hid (HBW.out.trans (hb.mono HBW.out.size)); have hxn := keepB HX.out hb; obtain ⟨z0, z1, z2, -⟩ := cells3 hxn; have Xv1 := Lib.hid hxn; obtain ⟨p0, p1⟩ := HQ.out v1 Hv1.out; clear hb hxn))
        have HF := Lib.hid (show R = false by rw [HR.out, show r1 = false by rw [← HD.out]; rfl]; simp)
        go_ret
        exact ⟨by rw [HF.out]; first | done | rfl, Hv1.out⟩
      | true =>
      cases b2 with
      | false =>
        go_wp2_with (first | (go_at_call 28; refine (hg.out _).mono ?_; rintro e v1 ⟨rfl, hb⟩; have Hv1 := Lib.hid (HBW.out.trans (hb.mono HBW.out.size)); have hxn := keepB HX.out hb; obtain ⟨z0, z1, z2, -⟩ := cells3 hxn; have Xv1 := Lib.hid hxn; obtain ⟨p0, p1⟩ := HQ.out v1 Hv1.out; clear hb hxn) | (go_at_call 29; refine (hf.out v1 Hv1.out).mono ?_; rintro e v2 ⟨rfl, hb⟩; have Hv2 := Lib.hid (Hv1.out.trans (hb.mono Hv1.out.size)); have hxn := keepB Xv1.out hb; obtain ⟨k0, k1, k2, -⟩ := cells3 hxn; have Xv2 := Lib.hid hxn; clear hb hxn))
        have HF := Lib.hid (show R = false by rw [HR.out, show r1 = false by rw [← HD.out]; rfl]; simp)
        go_ret
        exact ⟨by rw [HF.out]; first | done | rfl, Hv2.out⟩
      | true =>
        go_wp2_with (first | (go_at_call 28; refine (hg.out _).mono ?_; rintro e v1 ⟨rfl, hb⟩; have Hv1 := Lib.hid (HBW.out.trans (hb.mono HBW.out.size)); have hxn := keepB HX.out hb; obtain ⟨z0, z1, z2, -⟩ := cells3 hxn; have Xv1 := Lib.hid hxn; obtain ⟨p0, p1⟩ := HQ.out v1 Hv1.out; clear hb hxn) | (go_at_call 29; refine (hf.out v1 Hv1.out).mono ?_; rintro e v2 ⟨rfl, hb⟩; have Hv2 := Lib.hid (Hv1.out.trans (hb.mono Hv1.out.size)); have hxn := keepB Xv1.out hb; obtain ⟨k0, k1, k2, -⟩ := cells3 hxn; have Xv2 := Lib.hid hxn; clear hb hxn))
        go_roundw
        case rel => exact ⟨j + 1, by omega, by go_num, by rw [← HD.out]; simp, Hv2.out, Xv2.out⟩
        case measure => simp [intOf]; omega
    · have t1 : decide ((j : Int) < ss.length) = false := by simp; omega
      obtain rfl : j = ss.length := by omega
      have H1 := Lib.hid (show r1 = true by rw [← HS.out, List.drop_length]; rfl)
      clear HS
      have HB1 := Lib.hid HBW.out
      have HX1 := Lib.hid HX.out
      obtain ⟨wq, rfl⟩ : ∃ wq : World, wq = wo := ⟨_, rfl⟩
      clear HBW HX hjl hj
      go_wp2_with fail
      clear y0 y1 y2
      go_loopw [4, 5, 6] (fun u _ _ wr => ∃ j : Nat, j ≤ es.length ∧ u = .int .i64 j ∧ (es.drop j).all enOk = r2 ∧ Below w.heap.size w wr ∧ wr.heap[w.heap.size]? = some (.cells #[.slice sa ss.length sc, .slice ea es.length ec, .slice fa fs.length fc] 26)) (fun u _ _ _ => es.length - (intOf u).toNat)
      case atStart => exact ⟨0, by omega, rfl, by simpa using HR2.out.symm, HB1.out, HX1.out⟩
      case round =>
        clear HB1 HX1 HR2
        obtain ⟨i, hi, rfl, hs, hbw, hx⟩ := hrel
        obtain ⟨wo, rfl⟩ : ∃ wo : World, wo = wr := ⟨_, rfl⟩
        obtain ⟨y0, y1, y2, -, hlt0⟩ := cells3 hx
        have HS := Lib.hid hs
        have HX := Lib.hid hx
        have HBW := Lib.hid hbw
        clear hs hx hbw hlt0
        by_cases hil : i < es.length
        · have t1 : decide ((i : Int) < es.length) = true := by simp; omega
          obtain ⟨ba, offa, rfl, hlt, hcell⟩ := e3.out (by omega)
          obtain ⟨x, hxj⟩ : ∃ x, es[i]? = some x := ⟨_, List.getElem?_eq_getElem hil⟩
          have hdx : es.drop i = x :: es.drop (i + 1) := by rw [List.drop_eq_getElem_cons hil]; rw [List.getElem?_eq_getElem hil] at hxj; rw [Option.some.inj hxj]
          have hd1 : (enOk x && (es.drop (i + 1)).all enOk) = r2 := by rw [← HS.out, hdx, List.all_cons]
          have hmem := e4.out x (List.mem_of_getElem? hxj)
          obtain ⟨en, ⟨va, vc⟩, ev, ep⟩ := x
          obtain ⟨v1', v2', v3, v4⟩ := hmem
          dsimp only at v1' v2' v3 v4
          unfold maxLen at v2'
          replace v3 := Lib.hid v3
          replace v4 := Lib.hid v4
          simp only [enOk] at hd1
          have hg := Lib.hid (fun W => rgreat_any en W)
          generalize greatN en = b1 at hg hd1
          obtain ⟨rv, hrv⟩ : ∃ r, r = ev.all vaOk := ⟨_, rfl⟩
          rw [← hrv] at hd1
          have HD := Lib.hid hd1
          have HRV := Lib.hid hrv
          have hqq : ∀ w', Below w.heap.size w w' → w'.cell? ⟨ba, offa + i * 3, none⟩ = some (.string en) ∧ w'.cell? ⟨ba, offa + i * 3 + 1, none⟩ = some (.slice va ev.length vc) := fun w' h => ⟨(h.cell (p := ⟨ba, offa + i * 3, none⟩) hlt).trans (by simpa using hcell i _ hxj 0 _ rfl), (h.cell (p := ⟨ba, offa + i * 3 + 1, none⟩) hlt).trans (by simpa using hcell i _ hxj 1 _ rfl)⟩
          obtain ⟨q0, q1⟩ := hqq wo HBW.out
          have HQ := Lib.hid hqq
          clear hxj hcell hqq hdx hd1 hrv HS
          cases b1 with
          | false =>
            go_wp2_with ((go_at_call 28; refine (hg.out _).mono ?_; rintro e v1 ⟨rfl, hb⟩; have Hv1 := Lib.hid (HBW.out.trans (hb.mono HBW.out.size)); have hxn := keepB HX.out hb; obtain ⟨z0, z1, z2, -⟩ := cells3 hxn; have Xv1 := Lib.hid hxn; obtain ⟨p0, p1⟩ := HQ.out v1 Hv1.out; clear hb hxn))
            have HF := Lib.hid (show R = false by rw [HR.out, show r2 = false by rw [← HD.out]; rfl]; simp)
            go_ret
            exact ⟨by rw [HF.out]; first | done | rfl, Hv1.out⟩
          | true =>
            go_wp2_with ((go_at_call 28; refine (hg.out _).mono ?_; rintro e v1 ⟨rfl, hb⟩; have Hv1 := Lib.hid (HBW.out.trans (hb.mono HBW.out.size)); have hxn := keepB HX.out hb; obtain ⟨z0, z1, z2, -⟩ := cells3 hxn; have Xv1 := Lib.hid hxn; obtain ⟨p0, p1⟩ := HQ.out v1 Hv1.out; clear hb hxn))
            clear y0 y1 y2 z0 z1 z2 q0 q1 p0 p1 HX HBW
            go_loopw [5, 6] (fun u _ wr => ∃ k : Nat, k ≤ ev.length ∧ u = .int .i64 k ∧ (ev.drop k).all vaOk = rv ∧ Below w.heap.size w wr ∧ wr.heap[w.heap.size]? = some (.cells #[.slice sa ss.length sc, .slice (some ⟨ba, offa, none⟩) es.length ec, .slice fa fs.length fc] 26)) (fun u _ _ => ev.length - (intOf u).toNat)
            case atStart => exact ⟨0, by omega, rfl, by simpa using HRV.out.symm, Hv1.out, Xv1.out⟩
            case round =>
              clear Hv1 Xv1 HRV
              obtain ⟨k, hk, rfl, hs, hbw, hx⟩ := hrel
              obtain ⟨wi, rfl⟩ : ∃ wi : World, wi = wr := ⟨_, rfl⟩
              obtain ⟨y0, y1, y2, -, hlt0⟩ := cells3 hx
              obtain ⟨q0, q1⟩ := HQ.out wi hbw
              have HS := Lib.hid hs
              have HX := Lib.hid hx
              have HBW := Lib.hid hbw
              clear hs hx hbw hlt0
              by_cases hkl : k < ev.length
              · have t3 : decide ((k : Int) < ev.length) = true := by simp; omega
                obtain ⟨bb, offb, rfl, hltb, hcellb⟩ := v3.out (by omega)
                obtain ⟨x, hxk⟩ : ∃ x, ev[k]? = some x := ⟨_, List.getElem?_eq_getElem hkl⟩
                have hdx : ev.drop k = x :: ev.drop (k + 1) := by rw [List.drop_eq_getElem_cons hkl]; rw [List.getElem?_eq_getElem hkl] at hxk; rw [Option.some.inj hxk]
                have hd2 : (vaOk x && (ev.drop (k + 1)).all vaOk) = rv := by rw [← HS.out, hdx, List.all_cons]
                have hmem := v4.out x (List.mem_of_getElem? hxk)
                obtain ⟨fn1, ⟨k1, nm1, h1, l1⟩⟩ := x
                have hv2 := fun W => rgreat_any fn1 W
                have ht0 := fun W (_ : Below w.heap.size w W) => rnoTy_any (.mk k1 nm1 h1 l1) W
                have htt := fun W (hW : Below w.heap.size w W) => rvalidTy0 n (.mk k1 nm1 h1 l1) W (TyH.below n hmem hW)
                simp only [vaOk] at hd2
                generalize greatN fn1 = b2 at hv2 hd2
                generalize tyEq (.mk k1 nm1 h1 l1) tyZ = b3 at ht0 hd2
                generalize tyOk 60 (.mk k1 nm1 h1 l1) = b4 at htt hd2
                simp only [tyV, tyC] at ht0 htt
                have HD2 := Lib.hid hd2
                replace hv2 := Lib.hid hv2
                replace ht0 := Lib.hid ht0
                replace htt := Lib.hid htt
                have g0 : wi.cell? ⟨bb, offb + k * 4, none⟩ = some (.string fn1) := (HBW.out.cell (p := ⟨bb, offb + k * 4, none⟩) hltb).trans (by simpa using hcellb k _ hxk 0 _ rfl)
                have g1 : wi.cell? ⟨bb, offb + k * 4 + 1, none⟩ = some (.int .i64 k1) := (HBW.out.cell (p := ⟨bb, offb + k * 4 + 1, none⟩) hltb).trans (by simpa using hcellb k _ hxk 1 _ rfl)
                have g2 : wi.cell? ⟨bb, offb + k * 4 + 2, none⟩ = some (.string nm1) := (HBW.out.cell (p := ⟨bb, offb + k * 4 + 2, none⟩) hltb).trans (by simpa using hcellb k _ hxk 2 _ rfl)
                have g3 : wi.cell? ⟨bb, offb + k * 4 + 3, none⟩ = some (.slice h1.oa l1.length h1.cap) := (HBW.out.cell (p := ⟨bb, offb + k * 4 + 3, none⟩) hltb).trans (by simpa using hcellb k _ hxk 3 _ rfl)
                clear hxk hcellb hmem hdx hd2 HS
                go_upto_region 15 with fail
                have hnb := alloc_below wi (.cells #[.string fn1, .int .i64 k1, .string nm1, .slice h1.oa l1.length h1.cap] 71)
                have hnx := heap_alloc_new wi (.cells #[.string fn1, .int .i64 k1, .string nm1, .slice h1.oa l1.length h1.cap] 71)
                obtain ⟨W1, hW1⟩ : ∃ W, W = wi.alloc (.cells #[.string fn1, .int .i64 k1, .string nm1, .slice h1.oa l1.length h1.cap] 71) := ⟨_, rfl⟩
                rw [← hW1] at hnb hnx
                rw [← hW1]
                obtain ⟨f0, f1, f2, f3, -⟩ := cells4 hnx
                have Hw0 := Lib.hid (HBW.out.trans (hnb.mono HBW.out.size))
                have Bw0 := Lib.hid (keepB HX.out hnb)
                have Nw0 := Lib.hid hnx
                clear hnb hnx hW1 g0 g1 g2 g3 q0 q1 y0 y1 y2 hltb HBW HX
                cases b2 with
                | false =>
                  have HF := Lib.hid (show R = false by rw [HR.out, show r2 = false by rw [← HD.out, show rv = false by rw [← HD2.out]; simp]; simp]; simp)
                  go_wp2_with (go_at_call 28; refine (hv2.out W1).mono ?_; rintro e u1 ⟨rfl, hb⟩; have Hu1 := Lib.hid (Hw0.out.trans (hb.mono Hw0.out.size)); have Bu1 := Lib.hid (keepB Bw0.out hb); have hxn := keepB Nw0.out hb; obtain ⟨u10, u11, u12, u13, -⟩ := cells4 hxn; have Nu1 := Lib.hid hxn; clear hb hxn)
                  go_ret
                  exact ⟨by rw [HF.out]; first | done | rfl, Hu1.out⟩
                | true =>
                cases b3 with
                | true =>
                  go_wp2_with (first | (go_at_call 28; refine (hv2.out W1).mono ?_; rintro e u1 ⟨rfl, hb⟩; have Hu1 := Lib.hid (Hw0.out.trans (hb.mono Hw0.out.size)); have Bu1 := Lib.hid (keepB Bw0.out hb); have hxn := keepB Nw0.out hb; obtain ⟨u10, u11, u12, u13, -⟩ := cells4 hxn; have Nu1 := Lib.hid hxn; clear hb hxn) | (go_at_call 30; refine (ht0.out u1 Hu1.out).mono ?_; rintro e u2 ⟨rfl, hb⟩; have Hu2 := Lib.hid (Hu1.out.trans (hb.mono Hu1.out.size)); have Bu2 := Lib.hid (keepB Bu1.out hb); have hxn := keepB Nu1.out hb; obtain ⟨u20, u21, u22, u23, -⟩ := cells4 hxn; have Nu2 := Lib.hid hxn; clear hb hxn))
                  go_roundw
                  case rel => exact ⟨k + 1, by omega, by go_num, by rw [← HD2.out]; simp, Hu2.out, Bu2.out⟩
                  case measure => simp [intOf]; omega
                | false =>
                cases b4 with
                | false =>
                  have HF := Lib.hid (show R = false by rw [HR.out, show r2 = false by rw [← HD.out, show rv = false by rw [← HD2.out]; simp]; simp]; simp)
                  go_wp2_with (first | (go_at_call 28; refine (hv2.out W1).mono ?_; rintro e u1 ⟨rfl, hb⟩; have Hu1 := Lib.hid (Hw0.out.trans (hb.mono Hw0.out.size)); have Bu1 := Lib.hid (keepB Bw0.out hb); have hxn := keepB Nw0.out hb; obtain ⟨u10, u11, u12, u13, -⟩ := cells4 hxn; have Nu1 := Lib.hid hxn; clear hb hxn) | (go_at_call 30; refine (ht0.out u1 Hu1.out).mono ?_; rintro e u2 ⟨rfl, hb⟩; have Hu2 := Lib.hid (Hu1.out.trans (hb.mono Hu1.out.size)); have Bu2 := Lib.hid (keepB Bu1.out hb); have hxn := keepB Nu1.out hb; obtain ⟨u20, u21, u22, u23, -⟩ := cells4 hxn; have Nu2 := Lib.hid hxn; clear hb hxn) | (go_at_call 31; refine (htt.out u2 Hu2.out).mono ?_; rintro e u3 ⟨rfl, hb⟩; have Hu3 := Lib.hid (Hu2.out.trans (hb.mono Hu2.out.size)); have Bu3 := Lib.hid (keepB Bu2.out hb); have hxn := keepB Nu2.out hb; obtain ⟨u30, u31, u32, u33, -⟩ := cells4 hxn; have Nu3 := Lib.hid hxn; clear hb hxn))
                  go_ret
                  exact ⟨by rw [HF.out]; first | done | rfl, Hu3.out⟩
                | true =>
                  go_wp2_with (first | (go_at_call 28; refine (hv2.out W1).mono ?_; rintro e u1 ⟨rfl, hb⟩; have Hu1 := Lib.hid (Hw0.out.trans (hb.mono Hw0.out.size)); have Bu1 := Lib.hid (keepB Bw0.out hb); have hxn := keepB Nw0.out hb; obtain ⟨u10, u11, u12, u13, -⟩ := cells4 hxn; have Nu1 := Lib.hid hxn; clear hb hxn) | (go_at_call 30; refine (ht0.out u1 Hu1.out).mono ?_; rintro e u2 ⟨rfl, hb⟩; have Hu2 := Lib.hid (Hu1.out.trans (hb.mono Hu1.out.size)); have Bu2 := Lib.hid (keepB Bu1.out hb); have hxn := keepB Nu1.out hb; obtain ⟨u20, u21, u22, u23, -⟩ := cells4 hxn; have Nu2 := Lib.hid hxn; clear hb hxn) | (go_at_call 31; refine (htt.out u2 Hu2.out).mono ?_; rintro e u3 ⟨rfl, hb⟩; have Hu3 := Lib.hid (Hu2.out.trans (hb.mono Hu2.out.size)); have Bu3 := Lib.hid (keepB Bu2.out hb); have hxn := keepB Nu2.out hb; obtain ⟨u30, u31, u32, u33, -⟩ := cells4 hxn; have Nu3 := Lib.hid hxn; clear hb hxn))
                  go_roundw
                  case rel => exact ⟨k + 1, by omega, by go_num, by rw [← HD2.out]; simp, Hu3.out, Bu3.out⟩
                  case measure => simp [intOf]; omega
              · have t3 : decide ((k : Int) < ev.length) = false := by simp; omega
                obtain rfl : k = ev.length := by omega
                have HV := Lib.hid (show true = rv by rw [← HS.out, List.drop_length]; rfl)
                clear HS
                go_wp2
                go_roundw
                case rel => exact ⟨i + 1, by omega, by go_num, by rw [← HD.out, ← HV.out]; simp, HBW.out, HX.out⟩
                case measure => simp [intOf]; omega
        · have t1 : decide ((i : Int) < es.length) = false := by simp; omega
          obtain rfl : i = es.length := by omega
          have H2 := Lib.hid (show r2 = true by rw [← HS.out, List.drop_length]; rfl)
          clear HS
          have HB2 := Lib.hid HBW.out
          have HX2 := Lib.hid HX.out
          obtain ⟨wq2, rfl⟩ : ∃ wq : World, wq = wo := ⟨_, rfl⟩
          clear HBW HX hil hi
          go_wp2_with fail
          clear y0 y1 y2
          go_loopw [7] (fun u wr => ∃ j : Nat, j ≤ fs.length ∧ u = .int .i64 j ∧ (fs.drop j).all fnOk = r3 ∧ Below w.heap.size w wr ∧ wr.heap[w.heap.size]? = some (.cells #[.slice sa ss.length sc, .slice ea es.length ec, .slice fa fs.length fc] 26)) (fun u _ => fs.length - (intOf u).toNat)
          case atStart => exact ⟨0, by omega, rfl, by simpa using HR3.out.symm, HB2.out, HX2.out⟩
          case round =>
            clear HB2 HX2 HR3
            obtain ⟨j, hj, rfl, hs, hbw, hx⟩ := hrel
            obtain ⟨wo, rfl⟩ : ∃ wo : World, wo = wr := ⟨_, rfl⟩
            obtain ⟨y0, y1, y2, -, hlt0⟩ := cells3 hx
            have HS := Lib.hid hs
            have HX := Lib.hid hx
            have HBW := Lib.hid hbw
            clear hs hx hbw hlt0
            by_cases hjl : j < fs.length
            · have t1 : decide ((j : Int) < fs.length) = true := by simp; omega
              obtain ⟨ba, offa, rfl, hlt, hcell⟩ := f3.out (by omega)
              obtain ⟨x, hxj⟩ : ∃ x, fs[j]? = some x := ⟨_, List.getElem?_eq_getElem hjl⟩
              have hdx : fs.drop j = x :: fs.drop (j + 1) := by rw [List.drop_eq_getElem_cons hjl]; rw [List.getElem?_eq_getElem hjl] at hxj; rw [Option.some.inj hxj]
              have hd1 : (fnOk x && (fs.drop (j + 1)).all fnOk) = r3 := by rw [← HS.out, hdx, List.all_cons]
              have hmem := f4.out x (List.mem_of_getElem? hxj)
              obtain ⟨gn, gh, gp, gi, gb, gq⟩ := x
              simp only [fnOk] at hd1
              have HD := Lib.hid hd1
              have hg := Lib.hid (fun W => rsmall_any gn W)
              have hf := Lib.hid (fun W (hW : Below w.heap.size w W) => rvalidFields_any n gh gp W (Row.below hmem.1 hW fun _ _ hx => FdH.below hx hW))
              have hk := Lib.hid (fun W (hW : Below w.heap.size w W) => rValidBlock_any n 1 (by omega) gi gb W (Row.below hmem.2 hW fun _ _ hx => StH.below hx hW))
              generalize smallN gn = b1 at hg HD
              generalize gp.all fdOk = b2 at hf HD
              generalize rowOk 1 gb = b3 at hk HD
              have hqq : ∀ w', Below w.heap.size w w' → w'.cell? ⟨ba, offa + j * 4, none⟩ = some (.string gn) ∧ w'.cell? ⟨ba, offa + j * 4 + 1, none⟩ = some (.slice gh.oa gp.length gh.cap) ∧ w'.cell? ⟨ba, offa + j * 4 + 2, none⟩ = some (.slice gi.oa gb.length gi.cap) := fun w' h => ⟨(h.cell (p := ⟨ba, offa + j * 4, none⟩) hlt).trans (by simpa using hcell j _ hxj 0 _ rfl), (h.cell (p := ⟨ba, offa + j * 4 + 1, none⟩) hlt).trans (by simpa using hcell j _ hxj 1 _ rfl), (h.cell (p := ⟨ba, offa + j * 4 + 2, none⟩) hlt).trans (by simpa using hcell j _ hxj 2 _ rfl)⟩
              obtain ⟨q0, q1, q2⟩ := hqq wo HBW.out
              have HQ := Lib.hid hqq
              clear hxj hcell hmem hqq hdx hd1 HS
              cases b1 with
              | false =>
                go_wp2_with ((go_at_call 32; refine (hg.out _).mono ?_; rintro e v1 ⟨rfl, hb⟩; have Hv1 := Lib.hid (HBW.out.trans (hb.mono HBW.out.size)); have hxn := keepB HX.out hb; obtain ⟨z0, z1, z2, -⟩ := cells3 hxn; have Xv1 := Lib.hid hxn; obtain ⟨p0, p1, p2⟩ := HQ.out v1 Hv1.out; clear hb hxn))
                have HF := Lib.hid (show R = false by rw [HR.out, show r3 = false by rw [← HD.out]; rfl]; simp)
                go_ret
                exact ⟨by rw [HF.out]; first | done | rfl, Hv1.out⟩
              | true =>
              cases b2 with
              | false =>
                go_wp2_with (first | (go_at_call 32; refine (hg.out _).mono ?_; rintro e v1 ⟨rfl, hb⟩; have Hv1 := Lib.hid (HBW.out.trans (hb.mono HBW.out.size)); have hxn := keepB HX.out hb; obtain ⟨z0, z1, z2, -⟩ := cells3 hxn; have Xv1 := Lib.hid hxn; obtain ⟨p0, p1, p2⟩ := HQ.out v1 Hv1.out; clear hb hxn) | (go_at_call 29; refine (hf.out v1 Hv1.out).mono ?_; rintro e v2 ⟨rfl, hb⟩; have Hv2 := Lib.hid (Hv1.out.trans (hb.mono Hv1.out.size)); have hxn := keepB Xv1.out hb; obtain ⟨k0, k1, k2, -⟩ := cells3 hxn; have Xv2 := Lib.hid hxn; obtain ⟨u0, u1, u2⟩ := HQ.out v2 Hv2.out; clear hb hxn))
                have HF := Lib.hid (show R = false by rw [HR.out, show r3 = false by rw [← HD.out]; rfl]; simp)
                go_ret
                exact ⟨by rw [HF.out]; first | done | rfl, Hv2.out⟩
              | true =>
              cases b3 with
              | false =>
                go_wp2_with (first | (go_at_call 32; refine (hg.out _).mono ?_; rintro e v1 ⟨rfl, hb⟩; have Hv1 := Lib.hid (HBW.out.trans (hb.mono HBW.out.size)); have hxn := keepB HX.out hb; obtain ⟨z0, z1, z2, -⟩ := cells3 hxn; have Xv1 := Lib.hid hxn; obtain ⟨p0, p1, p2⟩ := HQ.out v1 Hv1.out; clear hb hxn) | (go_at_call 29; refine (hf.out v1 Hv1.out).mono ?_; rintro e v2 ⟨rfl, hb⟩; have Hv2 := Lib.hid (Hv1.out.trans (hb.mono Hv1.out.size)); have hxn := keepB Xv1.out hb; obtain ⟨k0, k1, k2, -⟩ := cells3 hxn; have Xv2 := Lib.hid hxn; obtain ⟨u0, u1, u2⟩ := HQ.out v2 Hv2.out; clear hb hxn) | (go_at_call 33; refine (hk.out v2 Hv2.out).mono ?_; rintro e v3 ⟨rfl, hb⟩; have Hv3 := Lib.hid (Hv2.out.trans (hb.mono Hv2.out.size)); have Xv3 := Lib.hid (keepB Xv2.out hb); clear hb))
                have HF := Lib.hid (show R = false by rw [HR.out, show r3 = false by rw [← HD.out]; rfl]; simp)
                go_ret
                exact ⟨by rw [HF.out]; first | done | rfl, Hv3.out⟩
              | true =>
                go_wp2_with (first | (go_at_call 32; refine (hg.out _).mono ?_; rintro e v1 ⟨rfl, hb⟩; have Hv1 := Lib.hid (HBW.out.trans (hb.mono HBW.out.size)); have hxn := keepB HX.out hb; obtain ⟨z0, z1, z2, -⟩ := cells3 hxn; have Xv1 := Lib.hid hxn; obtain ⟨p0, p1, p2⟩ := HQ.out v1 Hv1.out; clear hb hxn) | (go_at_call 29; refine (hf.out v1 Hv1.out).mono ?_; rintro e v2 ⟨rfl, hb⟩; have Hv2 := Lib.hid (Hv1.out.trans (hb.mono Hv1.out.size)); have hxn := keepB Xv1.out hb; obtain ⟨k0, k1, k2, -⟩ := cells3 hxn; have Xv2 := Lib.hid hxn; obtain ⟨u0, u1, u2⟩ := HQ.out v2 Hv2.out; clear hb hxn) | (go_at_call 33; refine (hk.out v2 Hv2.out).mono ?_; rintro e v3 ⟨rfl, hb⟩; have Hv3 := Lib.hid (Hv2.out.trans (hb.mono Hv2.out.size)); have Xv3 := Lib.hid (keepB Xv2.out hb); clear hb))
                go_roundw
                case rel => exact ⟨j + 1, by omega, by go_num, by rw [← HD.out]; simp, Hv3.out, Xv3.out⟩
                case measure => simp [intOf]; omega
            · have t1 : decide ((j : Int) < fs.length) = false := by simp; omega
              obtain rfl : j = fs.length := by omega
              have H3 := Lib.hid (show R = true by rw [HR.out, H1.out, H2.out, ← HS.out, List.drop_length]; rfl)
              clear HS
              go_wp2
              go_ret
              exact ⟨by rw [H3.out]; first | done | rfl, HBW.out⟩
end Go.Proofs.YtgogdcpgfmndnaaGreatDoor
