/-
  Same of the reference's text. Conditions: what is compared lies in the heap.
-/
import Derived.Test.YtgogdcpgfmndnaaGreatDoorTRefC
import Derived.Test.YtgogdcpgfmndnaaGreatDoorTRefG
namespace Go.Proofs.YtgogdcpgfmndnaaGreatDoor
open Go.RowKit

theorem rStmt_block : ∀ n : Nat, (∀ (x y : St5) (w : World), StH n w x → StH n w y → Calls Tryz.prog 62 #[stV x, stV y] w fun e w' => e = .returned (.bool (stEq x y)) ∧ Below w.heap.size w w')
  | 0 => fun _ _ _ h => by unfold StH at h; exact h.elim
  | n + 1 => fun x y w hx hy => rSameStmt_step n (fun ha hb la lb w' h h' => rSameBlock_of n (rStmt_block n) ha hb la lb w' h h') x y w hx hy
theorem rSameBlock_any (n : Nat) (ha hb : Hd) (la lb : List St5) (w : World) (hA : Row w ha 21 la stC (StH n w)) (hB : Row w hb 21 lb stC (StH n w)) :
    Calls Tryz.prog 27 #[.slice ha.oa la.length ha.cap, .slice hb.oa lb.length hb.cap] w fun e w' => e = .returned (.bool (eqL stEq la lb)) ∧ Below w.heap.size w w' := rSameBlock_of n (rStmt_block n) ha hb la lb w hA hB

set_option maxRecDepth 100000 in
set_option maxHeartbeats 64000000 in
theorem rSame_any (n : Nat) (a b : So5) (w : World) (hA : SoH n w a) (hB : SoH n w b) :
    Calls Tryz.prog 10 #[soV a, soV b] w fun e w' => e = .returned (.bool (soEq a b)) ∧ Below w.heap.size w w' := by
  obtain ⟨⟨sa1, sc1⟩, ss1, ⟨ea1, ec1⟩, es1, ⟨fa1, fc1⟩, fs1⟩ := a
  obtain ⟨⟨sa2, sc2⟩, ss2, ⟨ea2, ec2⟩, es2, ⟨fa2, fc2⟩, fs2⟩ := b
  obtain ⟨⟨s11, s12, s13, s14⟩, ⟨e11, e12, e13, e14⟩, f11, f12, f13, f14⟩ := hA
  obtain ⟨⟨s21, s22, s23, s24⟩, ⟨e21, e22, e23, e24⟩, f21, f22, f23, f24⟩ := hB
  dsimp only at s11 s12 s13 e11 e12 e13 f11 f12 f13 s21 s22 s23 e21 e22 e23 f21 f22 f23
  unfold maxLen at s12 e12 f12 s22 e22 f22
  replace s13 := Lib.hid s13
  replace s14 := Lib.hid s14
  replace e13 := Lib.hid e13
  replace e14 := Lib.hid e14
  replace f13 := Lib.hid f13
  replace f14 := Lib.hid f14
  replace s23 := Lib.hid s23
  replace s24 := Lib.hid s24
  replace e23 := Lib.hid e23
  replace e24 := Lib.hid e24
  replace f23 := Lib.hid f23
  replace f24 := Lib.hid f24
  simp only [soV]
  obtain ⟨R, hR⟩ : ∃ R, R = soEq ⟨⟨sa1, sc1⟩, ss1, ⟨ea1, ec1⟩, es1, ⟨fa1, fc1⟩, fs1⟩ ⟨⟨sa2, sc2⟩, ss2, ⟨ea2, ec2⟩, es2, ⟨fa2, fc2⟩, fs2⟩ := ⟨_, rfl⟩
  rw [← hR]
  replace hR : R = (eqL suEq ss1 ss2 && eqL enEq es1 es2 && eqL fnEq fs1 fs2) := hR
  obtain ⟨W0, hW0⟩ : ∃ W, W = (w.alloc (.cells #[.slice sa1 ss1.length sc1, .slice ea1 es1.length ec1, .slice fa1 fs1.length fc1] 26)).alloc (.cells #[.slice sa2 ss2.length sc2, .slice ea2 es2.length ec2, .slice fa2 fs2.length fc2] 26) := ⟨_, rfl⟩
  have hbx := box_two w #[.slice sa1 ss1.length sc1, .slice ea1 es1.length ec1, .slice fa1 fs1.length fc1] #[.slice sa2 ss2.length sc2, .slice ea2 es2.length ec2, .slice fa2 fs2.length fc2] 26 26
  rw [← hW0] at hbx
  have HW0 := Lib.hid hbx.1
  have HZ := Lib.hid (show ∀ w', Below W0.heap.size W0 w' → w'.cell? ⟨w.heap.size, 0, none⟩ = some (.slice sa1 ss1.length sc1) ∧ w'.cell? ⟨w.heap.size, 1, none⟩ = some (.slice ea1 es1.length ec1) ∧ w'.cell? ⟨w.heap.size, 2, none⟩ = some (.slice fa1 fs1.length fc1) ∧ w'.cell? ⟨w.heap.size + 1, 0, none⟩ = some (.slice sa2 ss2.length sc2) ∧ w'.cell? ⟨w.heap.size + 1, 1, none⟩ = some (.slice ea2 es2.length ec2) ∧ w'.cell? ⟨w.heap.size + 1, 2, none⟩ = some (.slice fa2 fs2.length fc2) from fun w' hb => by
    obtain ⟨x0, x1, x2, -⟩ := cells3 (keepB hbx.2.1 hb)
    obtain ⟨y0, y1, y2, -⟩ := cells3 (keepB hbx.2.2 hb)
    exact ⟨x0, x1, x2, y0, y1, y2⟩)
  have HLT := Lib.hid (show w.heap.size < W0.heap.size ∧ w.heap.size + 1 < W0.heap.size from ⟨(Array.getElem?_eq_some_iff.1 hbx.2.1).1, (Array.getElem?_eq_some_iff.1 hbx.2.2).1⟩)
  clear hbx
  by_cases l1 : ss1.length = ss2.length
  case neg =>
    have t0 : ((ss1.length : Int) != (ss2.length : Int)) = true := by simp; omega
    have HR := Lib.hid (show R = false by rw [hR, eqL_len _ l1]; rfl)
    clear hR l1
    go_enter Tryz.func10, Tryz.ntmps10
    go_wp2_with fail
    rw [← hW0]
    go_ret
    exact ⟨by rw [HR.out]; first | done | rfl, HW0.out⟩
  have t0 : ((ss1.length : Int) != (ss2.length : Int)) = false := by simp; omega
  by_cases l2 : es1.length = es2.length
  case neg =>
    have t1 : ((es1.length : Int) != (es2.length : Int)) = true := by simp; omega
    have HR := Lib.hid (show R = false by rw [hR, eqL_len enEq l2]; simp)
    clear hR l1 l2
    go_enter Tryz.func10, Tryz.ntmps10
    go_wp2_with fail
    rw [← hW0]
    go_ret
    exact ⟨by rw [HR.out]; first | done | rfl, HW0.out⟩
  have t1 : ((es1.length : Int) != (es2.length : Int)) = false := by simp; omega
  by_cases l3 : fs1.length = fs2.length
  case neg =>
    have t2 : ((fs1.length : Int) != (fs2.length : Int)) = true := by simp; omega
    have HR := Lib.hid (show R = false by rw [hR, eqL_len fnEq l3]; simp)
    clear hR l1 l2 l3
    go_enter Tryz.func10, Tryz.ntmps10
    go_wp2_with fail
    rw [← hW0]
    go_ret
    exact ⟨by rw [HR.out]; first | done | rfl, HW0.out⟩
  have t2 : ((fs1.length : Int) != (fs2.length : Int)) = false := by simp; omega
  have L1 := Lib.hid l1
  have L2 := Lib.hid l2
  have L3 := Lib.hid l3
  have m1 : ss1.length ≤ ss2.length := by omega
  have m2 : es1.length ≤ es2.length := by omega
  have m3 : fs1.length ≤ fs2.length := by omega
  obtain ⟨r1, hr1⟩ : ∃ r, r = eqL suEq ss1 ss2 := ⟨_, rfl⟩
  obtain ⟨r2, hr2⟩ : ∃ r, r = eqL enEq es1 es2 := ⟨_, rfl⟩
  obtain ⟨r3, hr3⟩ : ∃ r, r = eqL fnEq fs1 fs2 := ⟨_, rfl⟩
  rw [← hr1, ← hr2, ← hr3] at hR
  have HR := Lib.hid hR
  have HR1 := Lib.hid hr1
  have HR2 := Lib.hid hr2
  have HR3 := Lib.hid hr3
  clear hR l1 l2 l3 hr1 hr2 hr3
  go_enter Tryz.func10, Tryz.ntmps10
  go_wp2_with fail
  rw [← hW0]
  clear hW0 t0 t1 t2
  go_loopw [5, 6] (fun u _ wr => ∃ j : Nat, j ≤ ss1.length ∧ u = .int .i64 j ∧ eqL suEq (ss1.drop j) (ss2.drop j) = r1 ∧ Below W0.heap.size W0 wr) (fun u _ _ => ss1.length - (intOf u).toNat)
  case atStart => exact ⟨0, by omega, rfl, by simpa using HR1.out.symm, Below.refl _ _⟩
  case round =>
    clear HR1
    obtain ⟨j, hj, rfl, hs, hbw⟩ := hrel
    obtain ⟨wo, rfl⟩ : ∃ wo : World, wo = wr := ⟨_, rfl⟩
    obtain ⟨x0, x1, x2, y0, y1, y2⟩ := HZ.out _ hbw
    have HS := Lib.hid hs
    clear hs
    have HKK := Lib.hid (HW0.out.trans (hbw.mono HW0.out.size))
    by_cases hjl : j < ss1.length
    · have t1 : decide ((j : Int) < ss1.length) = true := by simp; omega
      obtain ⟨ba, offa, rfl, hxlt, hxc⟩ := s13.out (by omega)
      obtain ⟨bb, offb, rfl, hylt, hyc⟩ := s23.out (by omega)
      have hjb : j < ss2.length := by omega
      obtain ⟨x, y, hx, hy, hd⟩ := drop_two suEq hjl hjb
      have HD := Lib.hid (hd.symm.trans HS.out)
      have hax := SuH.below (s14.out x (List.mem_of_getElem? hx)) HKK.out
      have hay := SuH.below (s24.out y (List.mem_of_getElem? hy)) HKK.out
      obtain ⟨unx, udx, uhx, ufx, upx⟩ := x
      obtain ⟨uny, udy, uhy, ufy, upy⟩ := y
      have hc := fun W (hW : Below wo.heap.size wo W) => rSameFields_any n uhx uhy ufx ufy W (SuH.below hax hW) (SuH.below hay hW)
      simp only [suEq] at HD
      obtain ⟨bv, hbv⟩ : ∃ b, b = eqL fdEq ufx ufy := ⟨_, rfl⟩
      rw [← hbv] at hc HD
      clear hbv hax hay
      replace hc := Lib.hid hc
      have gx0 : wo.cell? ⟨ba, offa + j * 4, none⟩ = some (.string unx) := (HKK.out.cell (p := ⟨ba, offa + j * 4, none⟩) hxlt).trans (by simpa using hxc j _ hx 0 _ rfl)
      have gx1 : wo.cell? ⟨ba, offa + j * 4 + 1, none⟩ = some (.bool udx) := (HKK.out.cell (p := ⟨ba, offa + j * 4 + 1, none⟩) hxlt).trans (by simpa using hxc j _ hx 1 _ rfl)
      have gx2 : wo.cell? ⟨ba, offa + j * 4 + 2, none⟩ = some (.slice uhx.oa ufx.length uhx.cap) := (HKK.out.cell (p := ⟨ba, offa + j * 4 + 2, none⟩) hxlt).trans (by simpa using hxc j _ hx 2 _ rfl)
      have gy0 : wo.cell? ⟨bb, offb + j * 4, none⟩ = some (.string uny) := (HKK.out.cell (p := ⟨bb, offb + j * 4, none⟩) hylt).trans (by simpa using hyc j _ hy 0 _ rfl)
      have gy1 : wo.cell? ⟨bb, offb + j * 4 + 1, none⟩ = some (.bool udy) := (HKK.out.cell (p := ⟨bb, offb + j * 4 + 1, none⟩) hylt).trans (by simpa using hyc j _ hy 1 _ rfl)
      have gy2 : wo.cell? ⟨bb, offb + j * 4 + 2, none⟩ = some (.slice uhy.oa ufy.length uhy.cap) := (HKK.out.cell (p := ⟨bb, offb + j * 4 + 2, none⟩) hylt).trans (by simpa using hyc j _ hy 2 _ rfl)
      have HBW := Lib.hid hbw
      have HQ := Lib.hid (show ∀ w', Below wo.heap.size wo w' → w'.cell? ⟨w.heap.size, 0, none⟩ = some (.slice (some ⟨ba, offa, none⟩) ss1.length sc1) ∧ w'.cell? ⟨w.heap.size + 1, 0, none⟩ = some (.slice (some ⟨bb, offb, none⟩) ss2.length sc2) ∧ w'.cell? ⟨ba, offa + j * 4, none⟩ = some (.string unx) ∧ w'.cell? ⟨ba, offa + j * 4 + 1, none⟩ = some (.bool udx) ∧ w'.cell? ⟨ba, offa + j * 4 + 2, none⟩ = some (.slice uhx.oa ufx.length uhx.cap) ∧ w'.cell? ⟨bb, offb + j * 4, none⟩ = some (.string uny) ∧ w'.cell? ⟨bb, offb + j * 4 + 1, none⟩ = some (.bool udy) ∧ w'.cell? ⟨bb, offb + j * 4 + 2, none⟩ = some (.slice uhy.oa ufy.length uhy.cap) from fun w' h => ⟨(HZ.out _ (hbw.trans (h.mono hbw.size))).1, (HZ.out _ (hbw.trans (h.mono hbw.size))).2.2.2.1, (h.cell (p := ⟨ba, offa + j * 4, none⟩) (Nat.lt_of_lt_of_le hxlt HKK.out.size)).trans gx0, (h.cell (p := ⟨ba, offa + j * 4 + 1, none⟩) (Nat.lt_of_lt_of_le hxlt HKK.out.size)).trans gx1, (h.cell (p := ⟨ba, offa + j * 4 + 2, none⟩) (Nat.lt_of_lt_of_le hxlt HKK.out.size)).trans gx2, (h.cell (p := ⟨bb, offb + j * 4, none⟩) (Nat.lt_of_lt_of_le hylt HKK.out.size)).trans gy0, (h.cell (p := ⟨bb, offb + j * 4 + 1, none⟩) (Nat.lt_of_lt_of_le hylt HKK.out.size)).trans gy1, (h.cell (p := ⟨bb, offb + j * 4 + 2, none⟩) (Nat.lt_of_lt_of_le hylt HKK.out.size)).trans gy2⟩)
      clear hx hy hxc hyc hd HS hbw hxlt hylt HKK
      have q1 := str_eq unx uny
      cases bv with
      | false =>
        go_wp2_with fail
        go_region_held3 (fun w' => w'.cell? ⟨w.heap.size, 0, none⟩ = some (.slice (some ⟨ba, offa, none⟩) ss1.length sc1) ∧ w'.cell? ⟨w.heap.size + 1, 0, none⟩ = some (.slice (some ⟨bb, offb, none⟩) ss2.length sc2) ∧ w'.cell? ⟨ba, offa + j * 4, none⟩ = some (.string unx) ∧ w'.cell? ⟨ba, offa + j * 4 + 1, none⟩ = some (.bool udx) ∧ w'.cell? ⟨ba, offa + j * 4 + 2, none⟩ = some (.slice uhx.oa ufx.length uhx.cap) ∧ w'.cell? ⟨bb, offb + j * 4, none⟩ = some (.string uny) ∧ w'.cell? ⟨bb, offb + j * 4 + 1, none⟩ = some (.bool udy) ∧ w'.cell? ⟨bb, offb + j * 4 + 2, none⟩ = some (.slice uhy.oa ufy.length uhy.cap)) (first | (refine ⟨?_, ?_, ?_, ?_, ?_, ?_, ?_, ?_⟩ <;> assumption) | go_keep)
          (first | (go_at_call 25; refine (hc.out wo.drew (by exact (Below.refl _ _).drew)).mono ?_; rintro e w2 ⟨rfl, hb1'⟩; have hb1 := undrew2 hb1'; obtain ⟨u0, u1, u2, u3, u4, u5, u6, u7⟩ := HQ.out w2 hb1; have HB1 := Lib.hid (HBW.out.trans (hb1.mono HBW.out.size)); clear hb1' hb1))
        go_wp2
        go_quiet (fail)
        have HBQ := Lib.hid (show Below W0.heap.size W0 (w2.drewN nq) from ⟨HB1.out.os, HB1.out.tape, HB1.out.output, HB1.out.size, HB1.out.block⟩)
        have HBR := Lib.hid (HW0.out.trans (HBQ.out.mono HW0.out.size))
        clear u0 u1 u2 u3 u4 u5 u6 u7
        go_wp2
        go_ret
        exact ⟨by rw [HR.out, ← HD.out]; simp, HBR.out⟩
      | true =>
      cases d1 : decide (unx = uny) with
      | false =>
        rw [d1] at q1 HD
        clear d1
        go_wp2_with fail
        go_region_held3 (fun w' => w'.cell? ⟨w.heap.size, 0, none⟩ = some (.slice (some ⟨ba, offa, none⟩) ss1.length sc1) ∧ w'.cell? ⟨w.heap.size + 1, 0, none⟩ = some (.slice (some ⟨bb, offb, none⟩) ss2.length sc2) ∧ w'.cell? ⟨ba, offa + j * 4, none⟩ = some (.string unx) ∧ w'.cell? ⟨ba, offa + j * 4 + 1, none⟩ = some (.bool udx) ∧ w'.cell? ⟨ba, offa + j * 4 + 2, none⟩ = some (.slice uhx.oa ufx.length uhx.cap) ∧ w'.cell? ⟨bb, offb + j * 4, none⟩ = some (.string uny) ∧ w'.cell? ⟨bb, offb + j * 4 + 1, none⟩ = some (.bool udy) ∧ w'.cell? ⟨bb, offb + j * 4 + 2, none⟩ = some (.slice uhy.oa ufy.length uhy.cap)) (first | (refine ⟨?_, ?_, ?_, ?_, ?_, ?_, ?_, ?_⟩ <;> assumption) | go_keep)
          (first | (go_at_call 25; refine (hc.out wo.drew (by exact (Below.refl _ _).drew)).mono ?_; rintro e w2 ⟨rfl, hb1'⟩; have hb1 := undrew2 hb1'; obtain ⟨u0, u1, u2, u3, u4, u5, u6, u7⟩ := HQ.out w2 hb1; have HB1 := Lib.hid (HBW.out.trans (hb1.mono HBW.out.size)); clear hb1' hb1))
        go_wp2
        go_quiet (fail)
        have HBQ := Lib.hid (show Below W0.heap.size W0 (w2.drewN nq) from ⟨HB1.out.os, HB1.out.tape, HB1.out.output, HB1.out.size, HB1.out.block⟩)
        have HBR := Lib.hid (HW0.out.trans (HBQ.out.mono HW0.out.size))
        clear u0 u1 u2 u3 u4 u5 u6 u7
        go_wp2
        go_ret
        exact ⟨by rw [HR.out, ← HD.out]; simp, HBR.out⟩
      | true =>
        rw [d1] at q1 HD
        clear d1
        cases udx with
        | false =>
          cases udy with
          | true =>
            go_wp2_with fail
            go_region_held3 (fun w' => w'.cell? ⟨w.heap.size, 0, none⟩ = some (.slice (some ⟨ba, offa, none⟩) ss1.length sc1) ∧ w'.cell? ⟨w.heap.size + 1, 0, none⟩ = some (.slice (some ⟨bb, offb, none⟩) ss2.length sc2) ∧ w'.cell? ⟨ba, offa + j * 4, none⟩ = some (.string unx) ∧ w'.cell? ⟨ba, offa + j * 4 + 1, none⟩ = some (.bool false) ∧ w'.cell? ⟨ba, offa + j * 4 + 2, none⟩ = some (.slice uhx.oa ufx.length uhx.cap) ∧ w'.cell? ⟨bb, offb + j * 4, none⟩ = some (.string uny) ∧ w'.cell? ⟨bb, offb + j * 4 + 1, none⟩ = some (.bool true) ∧ w'.cell? ⟨bb, offb + j * 4 + 2, none⟩ = some (.slice uhy.oa ufy.length uhy.cap)) (first | (refine ⟨?_, ?_, ?_, ?_, ?_, ?_, ?_, ?_⟩ <;> assumption) | go_keep)
              (first | (go_at_call 25; refine (hc.out wo.drew (by exact (Below.refl _ _).drew)).mono ?_; rintro e w2 ⟨rfl, hb1'⟩; have hb1 := undrew2 hb1'; obtain ⟨u0, u1, u2, u3, u4, u5, u6, u7⟩ := HQ.out w2 hb1; have HB1 := Lib.hid (HBW.out.trans (hb1.mono HBW.out.size)); clear hb1' hb1))
            go_wp2
            go_quiet (fail)
            have HBQ := Lib.hid (show Below W0.heap.size W0 (w2.drewN nq) from ⟨HB1.out.os, HB1.out.tape, HB1.out.output, HB1.out.size, HB1.out.block⟩)
            have HBR := Lib.hid (HW0.out.trans (HBQ.out.mono HW0.out.size))
            clear u0 u1 u2 u3 u4 u5 u6 u7
            go_wp2
            go_ret
            exact ⟨by rw [HR.out, ← HD.out]; simp, HBR.out⟩
          | false =>
            go_wp2_with fail
            go_region_held3 (fun w' => w'.cell? ⟨w.heap.size, 0, none⟩ = some (.slice (some ⟨ba, offa, none⟩) ss1.length sc1) ∧ w'.cell? ⟨w.heap.size + 1, 0, none⟩ = some (.slice (some ⟨bb, offb, none⟩) ss2.length sc2) ∧ w'.cell? ⟨ba, offa + j * 4, none⟩ = some (.string unx) ∧ w'.cell? ⟨ba, offa + j * 4 + 1, none⟩ = some (.bool false) ∧ w'.cell? ⟨ba, offa + j * 4 + 2, none⟩ = some (.slice uhx.oa ufx.length uhx.cap) ∧ w'.cell? ⟨bb, offb + j * 4, none⟩ = some (.string uny) ∧ w'.cell? ⟨bb, offb + j * 4 + 1, none⟩ = some (.bool false) ∧ w'.cell? ⟨bb, offb + j * 4 + 2, none⟩ = some (.slice uhy.oa ufy.length uhy.cap)) (first | (refine ⟨?_, ?_, ?_, ?_, ?_, ?_, ?_, ?_⟩ <;> assumption) | go_keep)
              (first | (go_at_call 25; refine (hc.out wo.drew (by exact (Below.refl _ _).drew)).mono ?_; rintro e w2 ⟨rfl, hb1'⟩; have hb1 := undrew2 hb1'; obtain ⟨u0, u1, u2, u3, u4, u5, u6, u7⟩ := HQ.out w2 hb1; have HB1 := Lib.hid (HBW.out.trans (hb1.mono HBW.out.size)); clear hb1' hb1))
            go_wp2
            go_quiet (fail)
            have HBQ := Lib.hid (show Below W0.heap.size W0 (w2.drewN nq) from ⟨HB1.out.os, HB1.out.tape, HB1.out.output, HB1.out.size, HB1.out.block⟩)
            have HBR := Lib.hid (HW0.out.trans (HBQ.out.mono HW0.out.size))
            clear u0 u1 u2 u3 u4 u5 u6 u7
            go_wp2
            go_roundw
            case rel => exact ⟨j + 1, by omega, by go_num, by rw [← HD.out]; simp, HBQ.out⟩
            case measure => simp [intOf]; omega
        | true =>
          cases udy with
          | false =>
            go_wp2_with fail
            go_region_held3 (fun w' => w'.cell? ⟨w.heap.size, 0, none⟩ = some (.slice (some ⟨ba, offa, none⟩) ss1.length sc1) ∧ w'.cell? ⟨w.heap.size + 1, 0, none⟩ = some (.slice (some ⟨bb, offb, none⟩) ss2.length sc2) ∧ w'.cell? ⟨ba, offa + j * 4, none⟩ = some (.string unx) ∧ w'.cell? ⟨ba, offa + j * 4 + 1, none⟩ = some (.bool true) ∧ w'.cell? ⟨ba, offa + j * 4 + 2, none⟩ = some (.slice uhx.oa ufx.length uhx.cap) ∧ w'.cell? ⟨bb, offb + j * 4, none⟩ = some (.string uny) ∧ w'.cell? ⟨bb, offb + j * 4 + 1, none⟩ = some (.bool false) ∧ w'.cell? ⟨bb, offb + j * 4 + 2, none⟩ = some (.slice uhy.oa ufy.length uhy.cap)) (first | (refine ⟨?_, ?_, ?_, ?_, ?_, ?_, ?_, ?_⟩ <;> assumption) | go_keep)
              (first | (go_at_call 25; refine (hc.out wo.drew (by exact (Below.refl _ _).drew)).mono ?_; rintro e w2 ⟨rfl, hb1'⟩; have hb1 := undrew2 hb1'; obtain ⟨u0, u1, u2, u3, u4, u5, u6, u7⟩ := HQ.out w2 hb1; have HB1 := Lib.hid (HBW.out.trans (hb1.mono HBW.out.size)); clear hb1' hb1))
            go_wp2
            go_quiet (fail)
            have HBQ := Lib.hid (show Below W0.heap.size W0 (w2.drewN nq) from ⟨HB1.out.os, HB1.out.tape, HB1.out.output, HB1.out.size, HB1.out.block⟩)
            have HBR := Lib.hid (HW0.out.trans (HBQ.out.mono HW0.out.size))
            clear u0 u1 u2 u3 u4 u5 u6 u7
            go_wp2
            go_ret
            exact ⟨by rw [HR.out, ← HD.out]; simp, HBR.out⟩
          | true =>
            go_wp2_with fail
            go_region_held3 (fun w' => w'.cell? ⟨w.heap.size, 0, none⟩ = some (.slice (some ⟨ba, offa, none⟩) ss1.length sc1) ∧ w'.cell? ⟨w.heap.size + 1, 0, none⟩ = some (.slice (some ⟨bb, offb, none⟩) ss2.length sc2) ∧ w'.cell? ⟨ba, offa + j * 4, none⟩ = some (.string unx) ∧ w'.cell? ⟨ba, offa + j * 4 + 1, none⟩ = some (.bool true) ∧ w'.cell? ⟨ba, offa + j * 4 + 2, none⟩ = some (.slice uhx.oa ufx.length uhx.cap) ∧ w'.cell? ⟨bb, offb + j * 4, none⟩ = some (.string uny) ∧ w'.cell? ⟨bb, offb + j * 4 + 1, none⟩ = some (.bool true) ∧ w'.cell? ⟨bb, offb + j * 4 + 2, none⟩ = some (.slice uhy.oa ufy.length uhy.cap)) (first | (refine ⟨?_, ?_, ?_, ?_, ?_, ?_, ?_, ?_⟩ <;> assumption) | go_keep)
              (first | (go_at_call 25; refine (hc.out wo.drew (by exact (Below.refl _ _).drew)).mono ?_; rintro e w2 ⟨rfl, hb1'⟩; have hb1 := undrew2 hb1'; obtain ⟨u0, u1, u2, u3, u4, u5, u6, u7⟩ := HQ.out w2 hb1; have HB1 := Lib.hid (HBW.out.trans (hb1.mono HBW.out.size)); clear hb1' hb1))
            go_wp2
            go_quiet (fail)
            have HBQ := Lib.hid (show Below W0.heap.size W0 (w2.drewN nq) from ⟨HB1.out.os, HB1.out.tape, HB1.out.output, HB1.out.size, HB1.out.block⟩)
            have HBR := Lib.hid (HW0.out.trans (HBQ.out.mono HW0.out.size))
            clear u0 u1 u2 u3 u4 u5 u6 u7
            go_wp2
            go_roundw
            case rel => exact ⟨j + 1, by omega, by go_num, by rw [← HD.out]; simp, HBQ.out⟩
            case measure => simp [intOf]; omega
    · have t1 : decide ((j : Int) < ss1.length) = false := by simp; omega
      obtain rfl : j = ss1.length := by omega
      have Z1 := Lib.hid (show true = r1 by rw [← HS.out, eqL_end _ L1.out])
      have HV := Lib.hid hbw
      clear HS hbw hj hjl HKK s13 s14 s23 s24 L1
      go_wp2_with fail
      clear x0 x1 x2 y0 y1 y2 t1
      go_loopw [7, 8, 9, 10, 11] (fun u _ _ _ _ wr => ∃ j : Nat, j ≤ es1.length ∧ u = .int .i64 j ∧ eqL enEq (es1.drop j) (es2.drop j) = r2 ∧ Below W0.heap.size W0 wr) (fun u _ _ _ _ _ => es1.length - (intOf u).toNat)
      case atStart => exact ⟨0, by omega, rfl, by simpa using HR2.out.symm, HV.out⟩
      case round =>
        clear HR2 HV
        obtain ⟨j, hj, rfl, hs, hbw⟩ := hrel
        obtain ⟨wo, rfl⟩ : ∃ wo : World, wo = wr := ⟨_, rfl⟩
        obtain ⟨x0, x1, x2, y0, y1, y2⟩ := HZ.out _ hbw
        have HS := Lib.hid hs
        clear hs
        have HKK := Lib.hid (HW0.out.trans (hbw.mono HW0.out.size))
        by_cases hjl : j < es1.length
        · have t1 : decide ((j : Int) < es1.length) = true := by simp; omega
          obtain ⟨ba, offa, rfl, hxlt, hxc⟩ := e13.out (by omega)
          obtain ⟨bb, offb, rfl, hylt, hyc⟩ := e23.out (by omega)
          have hjb : j < es2.length := by omega
          obtain ⟨x, y, hx, hy, hd⟩ := drop_two enEq hjl hjb
          have HD := Lib.hid (hd.symm.trans HS.out)
          have hax := EnH.below (e14.out x (List.mem_of_getElem? hx)) HKK.out
          have hay := EnH.below (e24.out y (List.mem_of_getElem? hy)) HKK.out
          obtain ⟨enx, ⟨vax, vcx⟩, evx, epx⟩ := x
          obtain ⟨eny, ⟨vay, vcy⟩, evy, epy⟩ := y
          simp only [enEq] at HD
          obtain ⟨bv, hbv⟩ : ∃ b, b = eqL fdEq evx evy := ⟨_, rfl⟩
          rw [← hbv] at HD
          have HBV := Lib.hid hbv
          clear hbv
          have gx0 : wo.cell? ⟨ba, offa + j * 3, none⟩ = some (.string enx) := (HKK.out.cell (p := ⟨ba, offa + j * 3, none⟩) hxlt).trans (by simpa using hxc j _ hx 0 _ rfl)
          have gx1 : wo.cell? ⟨ba, offa + j * 3 + 1, none⟩ = some (.slice vax evx.length vcx) := (HKK.out.cell (p := ⟨ba, offa + j * 3 + 1, none⟩) hxlt).trans (by simpa using hxc j _ hx 1 _ rfl)
          have gx2 : wo.cell? ⟨ba, offa + j * 3 + 2, none⟩ = some (.int .i64 epx) := (HKK.out.cell (p := ⟨ba, offa + j * 3 + 2, none⟩) hxlt).trans (by simpa using hxc j _ hx 2 _ rfl)
          have gy0 : ∀ o, (wo.alloc o).cell? ⟨bb, offb + j * 3, none⟩ = some (.string eny) := fun o => ((alloc_below wo o).cell (p := ⟨bb, offb + j * 3, none⟩) (Nat.lt_of_lt_of_le hylt HKK.out.size)).trans ((HKK.out.cell (p := ⟨bb, offb + j * 3, none⟩) hylt).trans (by simpa using hyc j _ hy 0 _ rfl))
          have gy1 : ∀ o, (wo.alloc o).cell? ⟨bb, offb + j * 3 + 1, none⟩ = some (.slice vay evy.length vcy) := fun o => ((alloc_below wo o).cell (p := ⟨bb, offb + j * 3 + 1, none⟩) (Nat.lt_of_lt_of_le hylt HKK.out.size)).trans ((HKK.out.cell (p := ⟨bb, offb + j * 3 + 1, none⟩) hylt).trans (by simpa using hyc j _ hy 1 _ rfl))
          have gy2 : ∀ o, (wo.alloc o).cell? ⟨bb, offb + j * 3 + 2, none⟩ = some (.int .i64 epy) := fun o => ((alloc_below wo o).cell (p := ⟨bb, offb + j * 3 + 2, none⟩) (Nat.lt_of_lt_of_le hylt HKK.out.size)).trans ((HKK.out.cell (p := ⟨bb, offb + j * 3 + 2, none⟩) hylt).trans (by simpa using hyc j _ hy 2 _ rfl))
          have yb : ∀ o, (wo.alloc o).cell? ⟨w.heap.size + 1, 1, none⟩ = some (.slice (some ⟨bb, offb, none⟩) es2.length ec2) := fun o => (HZ.out _ (hbw.trans ((alloc_below wo o).mono hbw.size))).2.2.2.2.1
          obtain ⟨W2, hW2⟩ : ∃ W, W = (wo.alloc (.cells #[.string enx, .slice vax evx.length vcx, .int .i64 epx] 68)).alloc (.cells #[.string eny, .slice vay evy.length vcy, .int .i64 epy] 68) := ⟨_, rfl⟩
          have hbx := box_two wo #[.string enx, .slice vax evx.length vcx, .int .i64 epx] #[.string eny, .slice vay evy.length vcy, .int .i64 epy] 68 68
          rw [← hW2] at hbx
          have HK2 := Lib.hid (hbw.trans (hbx.1.mono hbw.size))
          have HK3 := Lib.hid (HW0.out.trans (HK2.out.mono HW0.out.size))
          have HY := Lib.hid (show ∀ w', Below W2.heap.size W2 w' → w'.cell? ⟨wo.heap.size, 0, none⟩ = some (.string enx) ∧ w'.cell? ⟨wo.heap.size, 1, none⟩ = some (.slice vax evx.length vcx) ∧ w'.cell? ⟨wo.heap.size + 1, 0, none⟩ = some (.string eny) ∧ w'.cell? ⟨wo.heap.size + 1, 1, none⟩ = some (.slice vay evy.length vcy) from fun w' hb => by
            obtain ⟨a0, a1, -⟩ := cells3 (keepB hbx.2.1 hb)
            obtain ⟨c0, c1, -⟩ := cells3 (keepB hbx.2.2 hb)
            exact ⟨a0, a1, c0, c1⟩)
          have HAX := Lib.hid (EnH.below hax hbx.1)
          have HAY := Lib.hid (EnH.below hay hbx.1)
          clear hax hay hbx hx hy hxc hyc hd HS hbw hxlt hylt HKK
          have q1 := str_eq enx eny
          go_upto_region 14 with fail
          rw [← hW2]
          clear hW2 gx0 gx1 gx2 gy0 gy1 gy2 x0 x1 x2 y0 y1 y2 yb
          obtain ⟨z0, z1, z2, z3⟩ := HY.out _ (Below.refl _ _)
          cases d1 : decide (enx = eny) with
          | false =>
            rw [d1] at q1 HD
            clear d1
            go_wp2_with fail
            go_ret
            exact ⟨by rw [HR.out, ← HD.out]; simp, HK3.out⟩
          | true =>
          rw [d1] at q1 HD
          clear d1
          by_cases lv : evx.length = evy.length
          case neg =>
            have t3 : ((evx.length : Int) != (evy.length : Int)) = true := by simp; omega
            have HE := Lib.hid (show false = bv by rw [HBV.out, eqL_len _ lv])
            clear lv
            go_wp2_with fail
            go_ret
            exact ⟨by rw [HR.out, ← HD.out, ← HE.out]; simp, HK3.out⟩
          have t3 : ((evx.length : Int) != (evy.length : Int)) = false := by simp; omega
          have LV := Lib.hid lv
          have mv : evx.length ≤ evy.length := by omega
          clear lv
          obtain ⟨v11, v12, v13, v14⟩ := HAX.out
          obtain ⟨v21, v22, v23, v24⟩ := HAY.out
          dsimp only at v11 v12 v13 v21 v22 v23
          unfold maxLen at v12 v22
          replace v13 := Lib.hid v13
          replace v14 := Lib.hid v14
          replace v23 := Lib.hid v23
          replace v24 := Lib.hid v24
          go_wp2_with fail
          clear z0 z1 z2 z3 q1 t3
          go_loopw [10, 11] (fun u _ wr => ∃ i : Nat, i ≤ evx.length ∧ u = .int .i64 i ∧ eqL fdEq (evx.drop i) (evy.drop i) = bv ∧ Below W2.heap.size W2 wr) (fun u _ _ => evx.length - (intOf u).toNat)
          case atStart => exact ⟨0, by omega, rfl, by simpa using HBV.out.symm, Below.refl _ _⟩
          case round =>
            clear HBV
            obtain ⟨i, hi, rfl, hs, hbw⟩ := hrel
            obtain ⟨wi, rfl⟩ : ∃ wi : World, wi = wr := ⟨_, rfl⟩
            obtain ⟨z0, z1, z2, z3⟩ := HY.out _ hbw
            have HS := Lib.hid hs
            clear hs
            have HKK := Lib.hid hbw
            by_cases hil : i < evx.length
            · have t2 : decide ((i : Int) < evx.length) = true := by simp; omega
              obtain ⟨bc, offc, rfl, hxlt, hxc⟩ := v13.out (by omega)
              obtain ⟨bd, offd, rfl, hylt, hyc⟩ := v23.out (by omega)
              have hib : i < evy.length := by omega
              obtain ⟨x, y, hx, hy, hd⟩ := drop_two fdEq hil hib
              have HE := Lib.hid (hd.symm.trans HS.out)
              have hax := FdH.below (v14.out x (List.mem_of_getElem? hx)) HKK.out
              have hay := FdH.below (v24.out y (List.mem_of_getElem? hy)) HKK.out
              obtain ⟨nmx, kx, nx, hx', lx⟩ := x
              obtain ⟨nmy, ky, ny, hy', ly⟩ := y
              have hc := fun W (hW : Below wi.heap.size wi W) => rSameTy_any n (.mk kx nx hx' lx) (.mk ky ny hy' ly) W (TyH.below n hax hW) (TyH.below n hay hW)
              simp only [fdEq] at HE
              obtain ⟨bt, hbt⟩ : ∃ b, b = tyEq (.mk kx nx hx' lx) (.mk ky ny hy' ly) := ⟨_, rfl⟩
              rw [← hbt] at hc HE
              clear hbt hax hay
              simp only [tyV, tyC] at hc
              replace hc := Lib.hid hc
              have gx0 : wi.cell? ⟨bc, offc + i * 4, none⟩ = some (.string nmx) := (HKK.out.cell (p := ⟨bc, offc + i * 4, none⟩) hxlt).trans (by simpa using hxc i _ hx 0 _ rfl)
              have gx1 : wi.cell? ⟨bc, offc + i * 4 + 1, none⟩ = some (.int .i64 kx) := (HKK.out.cell (p := ⟨bc, offc + i * 4 + 1, none⟩) hxlt).trans (by simpa using hxc i _ hx 1 _ rfl)
              have gx2 : wi.cell? ⟨bc, offc + i * 4 + 1 + 1, none⟩ = some (.string nx) := (HKK.out.cell (p := ⟨bc, offc + i * 4 + 1 + 1, none⟩) hxlt).trans (by simpa using hxc i _ hx 2 _ rfl)
              have gx3 : wi.cell? ⟨bc, offc + i * 4 + 1 + 2, none⟩ = some (.slice hx'.oa lx.length hx'.cap) := (HKK.out.cell (p := ⟨bc, offc + i * 4 + 1 + 2, none⟩) hxlt).trans (by simpa using hxc i _ hx 3 _ rfl)
              have gy0 : wi.cell? ⟨bd, offd + i * 4, none⟩ = some (.string nmy) := (HKK.out.cell (p := ⟨bd, offd + i * 4, none⟩) hylt).trans (by simpa using hyc i _ hy 0 _ rfl)
              have gy1 : wi.cell? ⟨bd, offd + i * 4 + 1, none⟩ = some (.int .i64 ky) := (HKK.out.cell (p := ⟨bd, offd + i * 4 + 1, none⟩) hylt).trans (by simpa using hyc i _ hy 1 _ rfl)
              have gy2 : wi.cell? ⟨bd, offd + i * 4 + 1 + 1, none⟩ = some (.string ny) := (HKK.out.cell (p := ⟨bd, offd + i * 4 + 1 + 1, none⟩) hylt).trans (by simpa using hyc i _ hy 2 _ rfl)
              have gy3 : wi.cell? ⟨bd, offd + i * 4 + 1 + 2, none⟩ = some (.slice hy'.oa ly.length hy'.cap) := (HKK.out.cell (p := ⟨bd, offd + i * 4 + 1 + 2, none⟩) hylt).trans (by simpa using hyc i _ hy 3 _ rfl)
              have HBW := Lib.hid hbw
              have HQ := Lib.hid (show ∀ w', Below wi.heap.size wi w' → w'.cell? ⟨wo.heap.size, 1, none⟩ = some (.slice (some ⟨bc, offc, none⟩) evx.length vcx) ∧ w'.cell? ⟨wo.heap.size + 1, 1, none⟩ = some (.slice (some ⟨bd, offd, none⟩) evy.length vcy) ∧ w'.cell? ⟨bc, offc + i * 4, none⟩ = some (.string nmx) ∧ w'.cell? ⟨bc, offc + i * 4 + 1, none⟩ = some (.int .i64 kx) ∧ w'.cell? ⟨bc, offc + i * 4 + 1 + 1, none⟩ = some (.string nx) ∧ w'.cell? ⟨bc, offc + i * 4 + 1 + 2, none⟩ = some (.slice hx'.oa lx.length hx'.cap) ∧ w'.cell? ⟨bd, offd + i * 4, none⟩ = some (.string nmy) ∧ w'.cell? ⟨bd, offd + i * 4 + 1, none⟩ = some (.int .i64 ky) ∧ w'.cell? ⟨bd, offd + i * 4 + 1 + 1, none⟩ = some (.string ny) ∧ w'.cell? ⟨bd, offd + i * 4 + 1 + 2, none⟩ = some (.slice hy'.oa ly.length hy'.cap) from fun w' h => ⟨(HY.out _ (hbw.trans (h.mono hbw.size))).2.1, (HY.out _ (hbw.trans (h.mono hbw.size))).2.2.2, (h.cell (p := ⟨bc, offc + i * 4, none⟩) (Nat.lt_of_lt_of_le hxlt HKK.out.size)).trans gx0, (h.cell (p := ⟨bc, offc + i * 4 + 1, none⟩) (Nat.lt_of_lt_of_le hxlt HKK.out.size)).trans gx1, (h.cell (p := ⟨bc, offc + i * 4 + 1 + 1, none⟩) (Nat.lt_of_lt_of_le hxlt HKK.out.size)).trans gx2, (h.cell (p := ⟨bc, offc + i * 4 + 1 + 2, none⟩) (Nat.lt_of_lt_of_le hxlt HKK.out.size)).trans gx3, (h.cell (p := ⟨bd, offd + i * 4, none⟩) (Nat.lt_of_lt_of_le hylt HKK.out.size)).trans gy0, (h.cell (p := ⟨bd, offd + i * 4 + 1, none⟩) (Nat.lt_of_lt_of_le hylt HKK.out.size)).trans gy1, (h.cell (p := ⟨bd, offd + i * 4 + 1 + 1, none⟩) (Nat.lt_of_lt_of_le hylt HKK.out.size)).trans gy2, (h.cell (p := ⟨bd, offd + i * 4 + 1 + 2, none⟩) (Nat.lt_of_lt_of_le hylt HKK.out.size)).trans gy3⟩)
              clear hx hy hxc hyc hd HS hbw hxlt hylt HKK
              have q1 := str_eq nmx nmy
              cases bt with
              | false =>
                go_wp2_with fail
                go_region_held3 (fun w' => w'.cell? ⟨wo.heap.size, 1, none⟩ = some (.slice (some ⟨bc, offc, none⟩) evx.length vcx) ∧ w'.cell? ⟨wo.heap.size + 1, 1, none⟩ = some (.slice (some ⟨bd, offd, none⟩) evy.length vcy) ∧ w'.cell? ⟨bc, offc + i * 4, none⟩ = some (.string nmx) ∧ w'.cell? ⟨bc, offc + i * 4 + 1, none⟩ = some (.int .i64 kx) ∧ w'.cell? ⟨bc, offc + i * 4 + 1 + 1, none⟩ = some (.string nx) ∧ w'.cell? ⟨bc, offc + i * 4 + 1 + 2, none⟩ = some (.slice hx'.oa lx.length hx'.cap) ∧ w'.cell? ⟨bd, offd + i * 4, none⟩ = some (.string nmy) ∧ w'.cell? ⟨bd, offd + i * 4 + 1, none⟩ = some (.int .i64 ky) ∧ w'.cell? ⟨bd, offd + i * 4 + 1 + 1, none⟩ = some (.string ny) ∧ w'.cell? ⟨bd, offd + i * 4 + 1 + 2, none⟩ = some (.slice hy'.oa ly.length hy'.cap)) (first | (refine ⟨?_, ?_, ?_, ?_, ?_, ?_, ?_, ?_, ?_, ?_⟩ <;> assumption) | go_keep)
                  (first | (go_at_call 26; refine (hc.out wi.drew (by exact (Below.refl _ _).drew)).mono ?_; rintro e w2 ⟨rfl, hb1'⟩; have hb1 := undrew2 hb1'; obtain ⟨u0, u1, u2, u3, u4, u5, u6, u7, u8, u9⟩ := HQ.out w2 hb1; have HB1 := Lib.hid (HBW.out.trans (hb1.mono HBW.out.size)); clear hb1' hb1))
                go_wp2
                go_quiet (fail)
                have HBQ := Lib.hid (show Below W2.heap.size W2 (w2.drewN nq) from ⟨HB1.out.os, HB1.out.tape, HB1.out.output, HB1.out.size, HB1.out.block⟩)
                have HBR := Lib.hid (HK2.out.trans (HBQ.out.mono HK2.out.size))
                have HBT := Lib.hid (HW0.out.trans (HBR.out.mono HW0.out.size))
                clear u0 u1 u2 u3 u4 u5 u6 u7 u8 u9
                go_wp2
                go_ret
                exact ⟨by rw [HR.out, ← HD.out, ← HE.out]; simp, HBT.out⟩
              | true =>
              cases d1 : decide (nmx = nmy) with
              | false =>
                rw [d1] at q1 HE
                clear d1
                go_wp2_with fail
                go_region_held3 (fun w' => w'.cell? ⟨wo.heap.size, 1, none⟩ = some (.slice (some ⟨bc, offc, none⟩) evx.length vcx) ∧ w'.cell? ⟨wo.heap.size + 1, 1, none⟩ = some (.slice (some ⟨bd, offd, none⟩) evy.length vcy) ∧ w'.cell? ⟨bc, offc + i * 4, none⟩ = some (.string nmx) ∧ w'.cell? ⟨bc, offc + i * 4 + 1, none⟩ = some (.int .i64 kx) ∧ w'.cell? ⟨bc, offc + i * 4 + 1 + 1, none⟩ = some (.string nx) ∧ w'.cell? ⟨bc, offc + i * 4 + 1 + 2, none⟩ = some (.slice hx'.oa lx.length hx'.cap) ∧ w'.cell? ⟨bd, offd + i * 4, none⟩ = some (.string nmy) ∧ w'.cell? ⟨bd, offd + i * 4 + 1, none⟩ = some (.int .i64 ky) ∧ w'.cell? ⟨bd, offd + i * 4 + 1 + 1, none⟩ = some (.string ny) ∧ w'.cell? ⟨bd, offd + i * 4 + 1 + 2, none⟩ = some (.slice hy'.oa ly.length hy'.cap)) (first | (refine ⟨?_, ?_, ?_, ?_, ?_, ?_, ?_, ?_, ?_, ?_⟩ <;> assumption) | go_keep)
                  (first | (go_at_call 26; refine (hc.out wi.drew (by exact (Below.refl _ _).drew)).mono ?_; rintro e w2 ⟨rfl, hb1'⟩; have hb1 := undrew2 hb1'; obtain ⟨u0, u1, u2, u3, u4, u5, u6, u7, u8, u9⟩ := HQ.out w2 hb1; have HB1 := Lib.hid (HBW.out.trans (hb1.mono HBW.out.size)); clear hb1' hb1))
                go_wp2
                go_quiet (fail)
                have HBQ := Lib.hid (show Below W2.heap.size W2 (w2.drewN nq) from ⟨HB1.out.os, HB1.out.tape, HB1.out.output, HB1.out.size, HB1.out.block⟩)
                have HBR := Lib.hid (HK2.out.trans (HBQ.out.mono HK2.out.size))
                have HBT := Lib.hid (HW0.out.trans (HBR.out.mono HW0.out.size))
                clear u0 u1 u2 u3 u4 u5 u6 u7 u8 u9
                go_wp2
                go_ret
                exact ⟨by rw [HR.out, ← HD.out, ← HE.out]; simp, HBT.out⟩
              | true =>
                rw [d1] at q1 HE
                clear d1
                go_wp2_with fail
                go_region_held3 (fun w' => w'.cell? ⟨wo.heap.size, 1, none⟩ = some (.slice (some ⟨bc, offc, none⟩) evx.length vcx) ∧ w'.cell? ⟨wo.heap.size + 1, 1, none⟩ = some (.slice (some ⟨bd, offd, none⟩) evy.length vcy) ∧ w'.cell? ⟨bc, offc + i * 4, none⟩ = some (.string nmx) ∧ w'.cell? ⟨bc, offc + i * 4 + 1, none⟩ = some (.int .i64 kx) ∧ w'.cell? ⟨bc, offc + i * 4 + 1 + 1, none⟩ = some (.string nx) ∧ w'.cell? ⟨bc, offc + i * 4 + 1 + 2, none⟩ = some (.slice hx'.oa lx.length hx'.cap) ∧ w'.cell? ⟨bd, offd + i * 4, none⟩ = some (.string nmy) ∧ w'.cell? ⟨bd, offd + i * 4 + 1, none⟩ = some (.int .i64 ky) ∧ w'.cell? ⟨bd, offd + i * 4 + 1 + 1, none⟩ = some (.string ny) ∧ w'.cell? ⟨bd, offd + i * 4 + 1 + 2, none⟩ = some (.slice hy'.oa ly.length hy'.cap)) (first | (refine ⟨?_, ?_, ?_, ?_, ?_, ?_, ?_, ?_, ?_, ?_⟩ <;> assumption) | go_keep)
                  (first | (go_at_call 26; refine (hc.out wi.drew (by exact (Below.refl _ _).drew)).mono ?_; rintro e w2 ⟨rfl, hb1'⟩; have hb1 := undrew2 hb1'; obtain ⟨u0, u1, u2, u3, u4, u5, u6, u7, u8, u9⟩ := HQ.out w2 hb1; have HB1 := Lib.hid (HBW.out.trans (hb1.mono HBW.out.size)); clear hb1' hb1))
                go_wp2
                go_quiet (fail)
                have HBQ := Lib.hid (show Below W2.heap.size W2 (w2.drewN nq) from ⟨HB1.out.os, HB1.out.tape, HB1.out.output, HB1.out.size, HB1.out.block⟩)
                have HBR := Lib.hid (HK2.out.trans (HBQ.out.mono HK2.out.size))
                have HBT := Lib.hid (HW0.out.trans (HBR.out.mono HW0.out.size))
                clear u0 u1 u2 u3 u4 u5 u6 u7 u8 u9
                go_wp2
                go_roundw
                case rel => exact ⟨i + 1, by omega, by go_num, by rw [← HE.out]; simp, HBQ.out⟩
                case measure => simp [intOf]; omega
            · have t2 : decide ((i : Int) < evx.length) = false := by simp; omega
              obtain rfl : i = evx.length := by omega
              have HE := Lib.hid (show true = bv by rw [← HS.out, eqL_end _ LV.out])
              have HBR := Lib.hid (HK2.out.trans (hbw.mono HK2.out.size))
              clear hbw HKK
              go_wp2
              go_roundw
              case rel => exact ⟨j + 1, by omega, by go_num, by rw [← HD.out, ← HE.out]; simp, HBR.out⟩
              case measure => simp [intOf]; omega
        · have t1 : decide ((j : Int) < es1.length) = false := by simp; omega
          obtain rfl : j = es1.length := by omega
          have Z2 := Lib.hid (show true = r2 by rw [← HS.out, eqL_end _ L2.out])
          have HV := Lib.hid hbw
          clear HS hbw hj hjl HKK e13 e14 e23 e24 L2
          go_wp2_with fail
          clear x0 x1 x2 y0 y1 y2 t1
          go_loopw [12, 13, 14] (fun u _ _ wr => ∃ j : Nat, j ≤ fs1.length ∧ u = .int .i64 j ∧ eqL fnEq (fs1.drop j) (fs2.drop j) = r3 ∧ Below W0.heap.size W0 wr) (fun u _ _ _ => fs1.length - (intOf u).toNat)
          case atStart => exact ⟨0, by omega, rfl, by simpa using HR3.out.symm, HV.out⟩
          case round =>
            clear HR3 HV
            obtain ⟨j, hj, rfl, hs, hbw⟩ := hrel
            obtain ⟨wo, rfl⟩ : ∃ wo : World, wo = wr := ⟨_, rfl⟩
            obtain ⟨-, -, x2, -, -, y2⟩ := HZ.out _ hbw
            have HS := Lib.hid hs
            clear hs
            have HKK := Lib.hid (HW0.out.trans (hbw.mono HW0.out.size))
            by_cases hjl : j < fs1.length
            · have t1 : decide ((j : Int) < fs1.length) = true := by simp; omega
              obtain ⟨ba, offa, rfl, hxlt, hxc⟩ := f13.out (by omega)
              obtain ⟨bb, offb, rfl, hylt, hyc⟩ := f23.out (by omega)
              have hjb : j < fs2.length := by omega
              obtain ⟨x, y, hx, hy, hd⟩ := drop_two fnEq hjl hjb
              have HD := Lib.hid (hd.symm.trans HS.out)
              have hax := FnH.below (f14.out x (List.mem_of_getElem? hx)) HKK.out
              have hay := FnH.below (f24.out y (List.mem_of_getElem? hy)) HKK.out
              obtain ⟨gnx, ghx, gpx, gix, gbx, gqx⟩ := x
              obtain ⟨gny, ghy, gpy, giy, gby, gqy⟩ := y
              have hc := fun W (hW : Below wo.heap.size wo W) => rSameFields_any n ghx ghy gpx gpy W (FnH.below hax hW).1 (FnH.below hay hW).1
              have hc2 := fun W (hW : Below wo.heap.size wo W) => rSameBlock_any n gix giy gbx gby W (FnH.below hax hW).2 (FnH.below hay hW).2
              simp only [fnEq] at HD
              obtain ⟨bv, hbv⟩ : ∃ b, b = eqL fdEq gpx gpy := ⟨_, rfl⟩
              rw [← hbv] at hc HD
              clear hbv
              obtain ⟨bt, hbt⟩ : ∃ b, b = eqL stEq gbx gby := ⟨_, rfl⟩
              rw [← hbt] at hc2 HD
              clear hbt hax hay
              replace hc := Lib.hid hc
              replace hc2 := Lib.hid hc2
              have gx0 : wo.cell? ⟨ba, offa + j * 4, none⟩ = some (.string gnx) := (HKK.out.cell (p := ⟨ba, offa + j * 4, none⟩) hxlt).trans (by simpa using hxc j _ hx 0 _ rfl)
              have gx1 : wo.cell? ⟨ba, offa + j * 4 + 1, none⟩ = some (.slice ghx.oa gpx.length ghx.cap) := (HKK.out.cell (p := ⟨ba, offa + j * 4 + 1, none⟩) hxlt).trans (by simpa using hxc j _ hx 1 _ rfl)
              have gx2 : wo.cell? ⟨ba, offa + j * 4 + 2, none⟩ = some (.slice gix.oa gbx.length gix.cap) := (HKK.out.cell (p := ⟨ba, offa + j * 4 + 2, none⟩) hxlt).trans (by simpa using hxc j _ hx 2 _ rfl)
              have gy0 : wo.cell? ⟨bb, offb + j * 4, none⟩ = some (.string gny) := (HKK.out.cell (p := ⟨bb, offb + j * 4, none⟩) hylt).trans (by simpa using hyc j _ hy 0 _ rfl)
              have gy1 : wo.cell? ⟨bb, offb + j * 4 + 1, none⟩ = some (.slice ghy.oa gpy.length ghy.cap) := (HKK.out.cell (p := ⟨bb, offb + j * 4 + 1, none⟩) hylt).trans (by simpa using hyc j _ hy 1 _ rfl)
              have gy2 : wo.cell? ⟨bb, offb + j * 4 + 2, none⟩ = some (.slice giy.oa gby.length giy.cap) := (HKK.out.cell (p := ⟨bb, offb + j * 4 + 2, none⟩) hylt).trans (by simpa using hyc j _ hy 2 _ rfl)
              have HBW := Lib.hid hbw
              have HQ := Lib.hid (show ∀ w', Below wo.heap.size wo w' → w'.cell? ⟨w.heap.size, 2, none⟩ = some (.slice (some ⟨ba, offa, none⟩) fs1.length fc1) ∧ w'.cell? ⟨w.heap.size + 1, 2, none⟩ = some (.slice (some ⟨bb, offb, none⟩) fs2.length fc2) ∧ w'.cell? ⟨ba, offa + j * 4, none⟩ = some (.string gnx) ∧ w'.cell? ⟨ba, offa + j * 4 + 1, none⟩ = some (.slice ghx.oa gpx.length ghx.cap) ∧ w'.cell? ⟨ba, offa + j * 4 + 2, none⟩ = some (.slice gix.oa gbx.length gix.cap) ∧ w'.cell? ⟨bb, offb + j * 4, none⟩ = some (.string gny) ∧ w'.cell? ⟨bb, offb + j * 4 + 1, none⟩ = some (.slice ghy.oa gpy.length ghy.cap) ∧ w'.cell? ⟨bb, offb + j * 4 + 2, none⟩ = some (.slice giy.oa gby.length giy.cap) from fun w' h => ⟨(HZ.out _ (hbw.trans (h.mono hbw.size))).2.2.1, (HZ.out _ (hbw.trans (h.mono hbw.size))).2.2.2.2.2, (h.cell (p := ⟨ba, offa + j * 4, none⟩) (Nat.lt_of_lt_of_le hxlt HKK.out.size)).trans gx0, (h.cell (p := ⟨ba, offa + j * 4 + 1, none⟩) (Nat.lt_of_lt_of_le hxlt HKK.out.size)).trans gx1, (h.cell (p := ⟨ba, offa + j * 4 + 2, none⟩) (Nat.lt_of_lt_of_le hxlt HKK.out.size)).trans gx2, (h.cell (p := ⟨bb, offb + j * 4, none⟩) (Nat.lt_of_lt_of_le hylt HKK.out.size)).trans gy0, (h.cell (p := ⟨bb, offb + j * 4 + 1, none⟩) (Nat.lt_of_lt_of_le hylt HKK.out.size)).trans gy1, (h.cell (p := ⟨bb, offb + j * 4 + 2, none⟩) (Nat.lt_of_lt_of_le hylt HKK.out.size)).trans gy2⟩)
              clear hx hy hxc hyc hd HS hbw hxlt hylt HKK
              have q1 := str_eq gnx gny
              cases bv with
              | false =>
                go_wp2_with fail
                go_region_held3 (fun w' => w'.cell? ⟨w.heap.size, 2, none⟩ = some (.slice (some ⟨ba, offa, none⟩) fs1.length fc1) ∧ w'.cell? ⟨w.heap.size + 1, 2, none⟩ = some (.slice (some ⟨bb, offb, none⟩) fs2.length fc2) ∧ w'.cell? ⟨ba, offa + j * 4, none⟩ = some (.string gnx) ∧ w'.cell? ⟨ba, offa + j * 4 + 1, none⟩ = some (.slice ghx.oa gpx.length ghx.cap) ∧ w'.cell? ⟨ba, offa + j * 4 + 2, none⟩ = some (.slice gix.oa gbx.length gix.cap) ∧ w'.cell? ⟨bb, offb + j * 4, none⟩ = some (.string gny) ∧ w'.cell? ⟨bb, offb + j * 4 + 1, none⟩ = some (.slice ghy.oa gpy.length ghy.cap) ∧ w'.cell? ⟨bb, offb + j * 4 + 2, none⟩ = some (.slice giy.oa gby.length giy.cap)) (first | (refine ⟨?_, ?_, ?_, ?_, ?_, ?_, ?_, ?_⟩ <;> assumption) | go_keep)
                  (first | (go_at_call 25; refine (hc.out wo.drew (by exact (Below.refl _ _).drew)).mono ?_; rintro e w2 ⟨rfl, hb1'⟩; have hb1 := undrew2 hb1'; obtain ⟨u0, u1, u2, u3, u4, u5, u6, u7⟩ := HQ.out w2 hb1; have HT1 := Lib.hid hb1; have HB0 := Lib.hid (HBW.out.trans (hb1.mono HBW.out.size)); clear hb1' hb1))
                clear gx0 gx1 gx2 gy0 gy1 gy2 x2 y2
                go_wp2
                obtain ⟨o0, o1, o2, o3, o4, o5, o6, o7⟩ := HQ.out w2.drew HT1.out.drew
                go_region_held3 (fun w' => w'.cell? ⟨w.heap.size, 2, none⟩ = some (.slice (some ⟨ba, offa, none⟩) fs1.length fc1) ∧ w'.cell? ⟨w.heap.size + 1, 2, none⟩ = some (.slice (some ⟨bb, offb, none⟩) fs2.length fc2) ∧ w'.cell? ⟨ba, offa + j * 4, none⟩ = some (.string gnx) ∧ w'.cell? ⟨ba, offa + j * 4 + 1, none⟩ = some (.slice ghx.oa gpx.length ghx.cap) ∧ w'.cell? ⟨ba, offa + j * 4 + 2, none⟩ = some (.slice gix.oa gbx.length gix.cap) ∧ w'.cell? ⟨bb, offb + j * 4, none⟩ = some (.string gny) ∧ w'.cell? ⟨bb, offb + j * 4 + 1, none⟩ = some (.slice ghy.oa gpy.length ghy.cap) ∧ w'.cell? ⟨bb, offb + j * 4 + 2, none⟩ = some (.slice giy.oa gby.length giy.cap)) (first | (refine ⟨?_, ?_, ?_, ?_, ?_, ?_, ?_, ?_⟩ <;> assumption) | go_keep)
                  (first | (go_at_call 27; refine (hc2.out w2.drew HT1.out.drew).mono ?_; rintro e w3 ⟨rfl, hb1'⟩; have hb1 := undrew2 hb1'; obtain ⟨v0, v1, v2, v3, v4, v5, v6, v7⟩ := HQ.out w3 (HT1.out.trans (hb1.mono HT1.out.size)); have HB1 := Lib.hid (HB0.out.trans (hb1.mono HB0.out.size)); clear hb1' hb1))
                clear u0 u1 u2 u3 u4 u5 u6 u7 o0 o1 o2 o3 o4 o5 o6 o7
                go_wp2
                go_quiet (fail)
                have HBQ := Lib.hid (show Below W0.heap.size W0 (w3.drewN nq) from ⟨HB1.out.os, HB1.out.tape, HB1.out.output, HB1.out.size, HB1.out.block⟩)
                have HBR := Lib.hid (HW0.out.trans (HBQ.out.mono HW0.out.size))
                clear v0 v1 v2 v3 v4 v5 v6 v7
                go_wp2
                go_ret
                exact ⟨by rw [HR.out, ← HD.out]; simp, HBR.out⟩
              | true =>
              cases bt with
              | false =>
                go_wp2_with fail
                go_region_held3 (fun w' => w'.cell? ⟨w.heap.size, 2, none⟩ = some (.slice (some ⟨ba, offa, none⟩) fs1.length fc1) ∧ w'.cell? ⟨w.heap.size + 1, 2, none⟩ = some (.slice (some ⟨bb, offb, none⟩) fs2.length fc2) ∧ w'.cell? ⟨ba, offa + j * 4, none⟩ = some (.string gnx) ∧ w'.cell? ⟨ba, offa + j * 4 + 1, none⟩ = some (.slice ghx.oa gpx.length ghx.cap) ∧ w'.cell? ⟨ba, offa + j * 4 + 2, none⟩ = some (.slice gix.oa gbx.length gix.cap) ∧ w'.cell? ⟨bb, offb + j * 4, none⟩ = some (.string gny) ∧ w'.cell? ⟨bb, offb + j * 4 + 1, none⟩ = some (.slice ghy.oa gpy.length ghy.cap) ∧ w'.cell? ⟨bb, offb + j * 4 + 2, none⟩ = some (.slice giy.oa gby.length giy.cap)) (first | (refine ⟨?_, ?_, ?_, ?_, ?_, ?_, ?_, ?_⟩ <;> assumption) | go_keep)
                  (first | (go_at_call 25; refine (hc.out wo.drew (by exact (Below.refl _ _).drew)).mono ?_; rintro e w2 ⟨rfl, hb1'⟩; have hb1 := undrew2 hb1'; obtain ⟨u0, u1, u2, u3, u4, u5, u6, u7⟩ := HQ.out w2 hb1; have HT1 := Lib.hid hb1; have HB0 := Lib.hid (HBW.out.trans (hb1.mono HBW.out.size)); clear hb1' hb1))
                clear gx0 gx1 gx2 gy0 gy1 gy2 x2 y2
                go_wp2
                obtain ⟨o0, o1, o2, o3, o4, o5, o6, o7⟩ := HQ.out w2.drew HT1.out.drew
                go_region_held3 (fun w' => w'.cell? ⟨w.heap.size, 2, none⟩ = some (.slice (some ⟨ba, offa, none⟩) fs1.length fc1) ∧ w'.cell? ⟨w.heap.size + 1, 2, none⟩ = some (.slice (some ⟨bb, offb, none⟩) fs2.length fc2) ∧ w'.cell? ⟨ba, offa + j * 4, none⟩ = some (.string gnx) ∧ w'.cell? ⟨ba, offa + j * 4 + 1, none⟩ = some (.slice ghx.oa gpx.length ghx.cap) ∧ w'.cell? ⟨ba, offa + j * 4 + 2, none⟩ = some (.slice gix.oa gbx.length gix.cap) ∧ w'.cell? ⟨bb, offb + j * 4, none⟩ = some (.string gny) ∧ w'.cell? ⟨bb, offb + j * 4 + 1, none⟩ = some (.slice ghy.oa gpy.length ghy.cap) ∧ w'.cell? ⟨bb, offb + j * 4 + 2, none⟩ = some (.slice giy.oa gby.length giy.cap)) (first | (refine ⟨?_, ?_, ?_, ?_, ?_, ?_, ?_, ?_⟩ <;> assumption) | go_keep)
                  (first | (go_at_call 27; refine (hc2.out w2.drew HT1.out.drew).mono ?_; rintro e w3 ⟨rfl, hb1'⟩; have hb1 := undrew2 hb1'; obtain ⟨v0, v1, v2, v3, v4, v5, v6, v7⟩ := HQ.out w3 (HT1.out.trans (hb1.mono HT1.out.size)); have HB1 := Lib.hid (HB0.out.trans (hb1.mono HB0.out.size)); clear hb1' hb1))
                clear u0 u1 u2 u3 u4 u5 u6 u7 o0 o1 o2 o3 o4 o5 o6 o7
                go_wp2
                go_quiet (fail)
                have HBQ := Lib.hid (show Below W0.heap.size W0 (w3.drewN nq) from ⟨HB1.out.os, HB1.out.tape, HB1.out.output, HB1.out.size, HB1.out.block⟩)
                have HBR := Lib.hid (HW0.out.trans (HBQ.out.mono HW0.out.size))
                clear v0 v1 v2 v3 v4 v5 v6 v7
                go_wp2
                go_ret
                exact ⟨by rw [HR.out, ← HD.out]; simp, HBR.out⟩
              | true =>
              cases d1 : decide (gnx = gny) with
              | false =>
                rw [d1] at q1 HD
                clear d1
                go_wp2_with fail
                go_region_held3 (fun w' => w'.cell? ⟨w.heap.size, 2, none⟩ = some (.slice (some ⟨ba, offa, none⟩) fs1.length fc1) ∧ w'.cell? ⟨w.heap.size + 1, 2, none⟩ = some (.slice (some ⟨bb, offb, none⟩) fs2.length fc2) ∧ w'.cell? ⟨ba, offa + j * 4, none⟩ = some (.string gnx) ∧ w'.cell? ⟨ba, offa + j * 4 + 1, none⟩ = some (.slice ghx.oa gpx.length ghx.cap) ∧ w'.cell? ⟨ba, offa + j * 4 + 2, none⟩ = some (.slice gix.oa gbx.length gix.cap) ∧ w'.cell? ⟨bb, offb + j * 4, none⟩ = some (.string gny) ∧ w'.cell? ⟨bb, offb + j * 4 + 1, none⟩ = some (.slice ghy.oa gpy.length ghy.cap) ∧ w'.cell? ⟨bb, offb + j * 4 + 2, none⟩ = some (.slice giy.oa gby.length giy.cap)) (first | (refine ⟨?_, ?_, ?_, ?_, ?_, ?_, ?_, ?_⟩ <;> assumption) | go_keep)
                  (first | (go_at_call 25; refine (hc.out wo.drew (by exact (Below.refl _ _).drew)).mono ?_; rintro e w2 ⟨rfl, hb1'⟩; have hb1 := undrew2 hb1'; obtain ⟨u0, u1, u2, u3, u4, u5, u6, u7⟩ := HQ.out w2 hb1; have HT1 := Lib.hid hb1; have HB0 := Lib.hid (HBW.out.trans (hb1.mono HBW.out.size)); clear hb1' hb1))
                clear gx0 gx1 gx2 gy0 gy1 gy2 x2 y2
                go_wp2
                obtain ⟨o0, o1, o2, o3, o4, o5, o6, o7⟩ := HQ.out w2.drew HT1.out.drew
                go_region_held3 (fun w' => w'.cell? ⟨w.heap.size, 2, none⟩ = some (.slice (some ⟨ba, offa, none⟩) fs1.length fc1) ∧ w'.cell? ⟨w.heap.size + 1, 2, none⟩ = some (.slice (some ⟨bb, offb, none⟩) fs2.length fc2) ∧ w'.cell? ⟨ba, offa + j * 4, none⟩ = some (.string gnx) ∧ w'.cell? ⟨ba, offa + j * 4 + 1, none⟩ = some (.slice ghx.oa gpx.length ghx.cap) ∧ w'.cell? ⟨ba, offa + j * 4 + 2, none⟩ = some (.slice gix.oa gbx.length gix.cap) ∧ w'.cell? ⟨bb, offb + j * 4, none⟩ = some (.string gny) ∧ w'.cell? ⟨bb, offb + j * 4 + 1, none⟩ = some (.slice ghy.oa gpy.length ghy.cap) ∧ w'.cell? ⟨bb, offb + j * 4 + 2, none⟩ = some (.slice giy.oa gby.length giy.cap)) (first | (refine ⟨?_, ?_, ?_, ?_, ?_, ?_, ?_, ?_⟩ <;> assumption) | go_keep)
                  (first | (go_at_call 27; refine (hc2.out w2.drew HT1.out.drew).mono ?_; rintro e w3 ⟨rfl, hb1'⟩; have hb1 := undrew2 hb1'; obtain ⟨v0, v1, v2, v3, v4, v5, v6, v7⟩ := HQ.out w3 (HT1.out.trans (hb1.mono HT1.out.size)); have HB1 := Lib.hid (HB0.out.trans (hb1.mono HB0.out.size)); clear hb1' hb1))
                clear u0 u1 u2 u3 u4 u5 u6 u7 o0 o1 o2 o3 o4 o5 o6 o7
                go_wp2
                go_quiet (fail)
                have HBQ := Lib.hid (show Below W0.heap.size W0 (w3.drewN nq) from ⟨HB1.out.os, HB1.out.tape, HB1.out.output, HB1.out.size, HB1.out.block⟩)
                have HBR := Lib.hid (HW0.out.trans (HBQ.out.mono HW0.out.size))
                clear v0 v1 v2 v3 v4 v5 v6 v7
                go_wp2
                go_ret
                exact ⟨by rw [HR.out, ← HD.out]; simp, HBR.out⟩
              | true =>
                rw [d1] at q1 HD
                clear d1
                go_wp2_with fail
                go_region_held3 (fun w' => w'.cell? ⟨w.heap.size, 2, none⟩ = some (.slice (some ⟨ba, offa, none⟩) fs1.length fc1) ∧ w'.cell? ⟨w.heap.size + 1, 2, none⟩ = some (.slice (some ⟨bb, offb, none⟩) fs2.length fc2) ∧ w'.cell? ⟨ba, offa + j * 4, none⟩ = some (.string gnx) ∧ w'.cell? ⟨ba, offa + j * 4 + 1, none⟩ = some (.slice ghx.oa gpx.length ghx.cap) ∧ w'.cell? ⟨ba, offa + j * 4 + 2, none⟩ = some (.slice gix.oa gbx.length gix.cap) ∧ w'.cell? ⟨bb, offb + j * 4, none⟩ = some (.string gny) ∧ w'.cell? ⟨bb, offb + j * 4 + 1, none⟩ = some (.slice ghy.oa gpy.length ghy.cap) ∧ w'.cell? ⟨bb, offb + j * 4 + 2, none⟩ = some (.slice giy.oa gby.length giy.cap)) (first | (refine ⟨?_, ?_, ?_, ?_, ?_, ?_, ?_, ?_⟩ <;> assumption) | go_keep)
                  (first | (go_at_call 25; refine (hc.out wo.drew (by exact (Below.refl _ _).drew)).mono ?_; rintro e w2 ⟨rfl, hb1'⟩; have hb1 := undrew2 hb1'; obtain ⟨u0, u1, u2, u3, u4, u5, u6, u7⟩ := HQ.out w2 hb1; have HT1 := Lib.hid hb1; have HB0 := Lib.hid (HBW.out.trans (hb1.mono HBW.out.size)); clear hb1' hb1))
                clear gx0 gx1 gx2 gy0 gy1 gy2 x2 y2
                go_wp2
                obtain ⟨o0, o1, o2, o3, o4, o5, o6, o7⟩ := HQ.out w2.drew HT1.out.drew
                go_region_held3 (fun w' => w'.cell? ⟨w.heap.size, 2, none⟩ = some (.slice (some ⟨ba, offa, none⟩) fs1.length fc1) ∧ w'.cell? ⟨w.heap.size + 1, 2, none⟩ = some (.slice (some ⟨bb, offb, none⟩) fs2.length fc2) ∧ w'.cell? ⟨ba, offa + j * 4, none⟩ = some (.string gnx) ∧ w'.cell? ⟨ba, offa + j * 4 + 1, none⟩ = some (.slice ghx.oa gpx.length ghx.cap) ∧ w'.cell? ⟨ba, offa + j * 4 + 2, none⟩ = some (.slice gix.oa gbx.length gix.cap) ∧ w'.cell? ⟨bb, offb + j * 4, none⟩ = some (.string gny) ∧ w'.cell? ⟨bb, offb + j * 4 + 1, none⟩ = some (.slice ghy.oa gpy.length ghy.cap) ∧ w'.cell? ⟨bb, offb + j * 4 + 2, none⟩ = some (.slice giy.oa gby.length giy.cap)) (first | (refine ⟨?_, ?_, ?_, ?_, ?_, ?_, ?_, ?_⟩ <;> assumption) | go_keep)
                  (first | (go_at_call 27; refine (hc2.out w2.drew HT1.out.drew).mono ?_; rintro e w3 ⟨rfl, hb1'⟩; have hb1 := undrew2 hb1'; obtain ⟨v0, v1, v2, v3, v4, v5, v6, v7⟩ := HQ.out w3 (HT1.out.trans (hb1.mono HT1.out.size)); have HB1 := Lib.hid (HB0.out.trans (hb1.mono HB0.out.size)); clear hb1' hb1))
                clear u0 u1 u2 u3 u4 u5 u6 u7 o0 o1 o2 o3 o4 o5 o6 o7
                go_wp2
                go_quiet (fail)
                have HBQ := Lib.hid (show Below W0.heap.size W0 (w3.drewN nq) from ⟨HB1.out.os, HB1.out.tape, HB1.out.output, HB1.out.size, HB1.out.block⟩)
                have HBR := Lib.hid (HW0.out.trans (HBQ.out.mono HW0.out.size))
                clear v0 v1 v2 v3 v4 v5 v6 v7
                go_wp2
                go_roundw
                case rel => exact ⟨j + 1, by omega, by go_num, by rw [← HD.out]; simp, HBQ.out⟩
                case measure => simp [intOf]; omega
            · have t1 : decide ((j : Int) < fs1.length) = false := by simp; omega
              obtain rfl : j = fs1.length := by omega
              have Z3 := Lib.hid (show true = r3 by rw [← HS.out, eqL_end _ L3.out])
              clear hbw
              go_wp2
              go_ret
              exact ⟨by rw [HR.out, ← Z1.out, ← Z2.out, ← Z3.out]; first | done | rfl, HKK.out⟩

end Go.Proofs.YtgogdcpgfmndnaaGreatDoor
