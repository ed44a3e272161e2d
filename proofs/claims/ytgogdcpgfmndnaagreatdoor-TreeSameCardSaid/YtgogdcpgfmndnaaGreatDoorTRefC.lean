/-
  SameFields of the reference's text. Conditions: what is compared lies in the heap.
-/
import Derived.Test.YtgogdcpgfmndnaaGreatDoorTRefB
namespace Go.Proofs.YtgogdcpgfmndnaaGreatDoor
open Go.RowKit

set_option maxRecDepth 100000 in
set_option maxHeartbeats 8000000 in
theorem rSameFields_any (n : Nat) (ha hb : Hd) (la lb : List Fd5) (w : World) (hA : Row w ha 4 la fdC (FdH n w)) (hB : Row w hb 4 lb fdC (FdH n w)) :
    Calls Tryz.prog 25 #[.slice ha.oa la.length ha.cap, .slice hb.oa lb.length hb.cap] w fun e w' => e = .returned (.bool (eqL fdEq la lb)) ∧ Below w.heap.size w w' := by
  obtain ⟨oa, capa⟩ := ha
  obtain ⟨ob, capb⟩ := hb
  obtain ⟨ha1, ha2, ha3, ha4⟩ := hA
  obtain ⟨hb1, hb2, hb3, hb4⟩ := hB
  dsimp only at ha1 ha2 ha3 hb1 hb2 hb3 ⊢
  unfold maxLen at ha2 hb2
  replace ha3 := Lib.hid ha3
  replace hb3 := Lib.hid hb3
  replace ha4 := Lib.hid ha4
  replace hb4 := Lib.hid hb4
  obtain ⟨R, hR⟩ : ∃ R, R = eqL fdEq la lb := ⟨_, rfl⟩
  rw [← hR]
  by_cases hl : la.length = lb.length
  · have t0 : ((la.length : Int) != (lb.length : Int)) = false := by simp; omega
    have HR := Lib.hid hR
    have HL := Lib.hid hl
    have hl1 : la.length ≤ lb.length := by omega
    clear hl hR
    go_enter Tryz.func25, Tryz.ntmps25
    go_wp2_with fail
    go_loopw [5] (fun u wr => ∃ j : Nat, j ≤ la.length ∧ u = .int .i64 j ∧ eqL fdEq (la.drop j) (lb.drop j) = R ∧ Below w.heap.size w wr) (fun u _ => la.length - (intOf u).toNat)
    case atStart => exact ⟨0, by omega, rfl, by simpa using HR.out.symm, Below.refl _ _⟩
    case round =>
      clear HR
      obtain ⟨j, hj, rfl, hs, hbw⟩ := hrel
      obtain ⟨wo, rfl⟩ : ∃ wo : World, wo = wr := ⟨_, rfl⟩
      have HS := Lib.hid hs
      clear hs
      by_cases hjl : j < la.length
      · have t1 : decide ((j : Int) < la.length) = true := by simp; omega
        obtain ⟨ba, offa, rfl, hxlt, hxc⟩ := ha3.out (by omega)
        obtain ⟨bb, offb, rfl, hylt, hyc⟩ := hb3.out (by omega)
        have hjb : j < lb.length := by omega
        obtain ⟨x, y, hx, hy, hd⟩ := drop_two fdEq hjl hjb
        have HD := Lib.hid (hd.symm.trans HS.out)
        have hc := fun W (hW : Below wo.heap.size wo W) => rSameTy_any n x.ty y.ty W (TyH.below n (TyH.below n (ha4.out x (List.mem_of_getElem? hx)) hbw) hW) (TyH.below n (TyH.below n (hb4.out y (List.mem_of_getElem? hy)) hbw) hW)
        obtain ⟨nmx, kx, nx, hx', lx⟩ := x
        obtain ⟨nmy, ky, ny, hy', ly⟩ := y
        simp only [fdEq] at HD
        dsimp only at hc
        obtain ⟨bv, hbv⟩ : ∃ b, b = tyEq (.mk kx nx hx' lx) (.mk ky ny hy' ly) := ⟨_, rfl⟩
        rw [← hbv] at hc HD
        clear hbv
        simp only [tyV, tyC] at hc
        replace hc := Lib.hid hc
        have gx0 : wo.cell? ⟨ba, offa + j * 4, none⟩ = some (.string nmx) := (hbw.cell (p := ⟨ba, offa + j * 4, none⟩) hxlt).trans (by simpa using hxc j _ hx 0 _ rfl)
        have gx1 : wo.cell? ⟨ba, offa + j * 4 + 1, none⟩ = some (.int .i64 kx) := (hbw.cell (p := ⟨ba, offa + j * 4 + 1, none⟩) hxlt).trans (by simpa using hxc j _ hx 1 _ rfl)
        have gx2 : wo.cell? ⟨ba, offa + j * 4 + 1 + 1, none⟩ = some (.string nx) := (hbw.cell (p := ⟨ba, offa + j * 4 + 1 + 1, none⟩) hxlt).trans (by simpa using hxc j _ hx 2 _ rfl)
        have gx3 : wo.cell? ⟨ba, offa + j * 4 + 1 + 2, none⟩ = some (.slice hx'.oa lx.length hx'.cap) := (hbw.cell (p := ⟨ba, offa + j * 4 + 1 + 2, none⟩) hxlt).trans (by simpa using hxc j _ hx 3 _ rfl)
        have gy0 : wo.cell? ⟨bb, offb + j * 4, none⟩ = some (.string nmy) := (hbw.cell (p := ⟨bb, offb + j * 4, none⟩) hylt).trans (by simpa using hyc j _ hy 0 _ rfl)
        have gy1 : wo.cell? ⟨bb, offb + j * 4 + 1, none⟩ = some (.int .i64 ky) := (hbw.cell (p := ⟨bb, offb + j * 4 + 1, none⟩) hylt).trans (by simpa using hyc j _ hy 1 _ rfl)
        have gy2 : wo.cell? ⟨bb, offb + j * 4 + 1 + 1, none⟩ = some (.string ny) := (hbw.cell (p := ⟨bb, offb + j * 4 + 1 + 1, none⟩) hylt).trans (by simpa using hyc j _ hy 2 _ rfl)
        have gy3 : wo.cell? ⟨bb, offb + j * 4 + 1 + 2, none⟩ = some (.slice hy'.oa ly.length hy'.cap) := (hbw.cell (p := ⟨bb, offb + j * 4 + 1 + 2, none⟩) hylt).trans (by simpa using hyc j _ hy 3 _ rfl)
        have HBW := Lib.hid hbw
        have HQ := Lib.hid (show ∀ w', Below wo.heap.size wo w' → w'.cell? ⟨ba, offa + j * 4, none⟩ = some (.string nmx) ∧ w'.cell? ⟨ba, offa + j * 4 + 1, none⟩ = some (.int .i64 kx) ∧ w'.cell? ⟨ba, offa + j * 4 + 1 + 1, none⟩ = some (.string nx) ∧ w'.cell? ⟨ba, offa + j * 4 + 1 + 2, none⟩ = some (.slice hx'.oa lx.length hx'.cap) ∧ w'.cell? ⟨bb, offb + j * 4, none⟩ = some (.string nmy) ∧ w'.cell? ⟨bb, offb + j * 4 + 1, none⟩ = some (.int .i64 ky) ∧ w'.cell? ⟨bb, offb + j * 4 + 1 + 1, none⟩ = some (.string ny) ∧ w'.cell? ⟨bb, offb + j * 4 + 1 + 2, none⟩ = some (.slice hy'.oa ly.length hy'.cap) from fun w' h => ⟨(h.cell (p := ⟨ba, offa + j * 4, none⟩) (Nat.lt_of_lt_of_le hxlt hbw.size)).trans gx0, (h.cell (p := ⟨ba, offa + j * 4 + 1, none⟩) (Nat.lt_of_lt_of_le hxlt hbw.size)).trans gx1, (h.cell (p := ⟨ba, offa + j * 4 + 1 + 1, none⟩) (Nat.lt_of_lt_of_le hxlt hbw.size)).trans gx2, (h.cell (p := ⟨ba, offa + j * 4 + 1 + 2, none⟩) (Nat.lt_of_lt_of_le hxlt hbw.size)).trans gx3, (h.cell (p := ⟨bb, offb + j * 4, none⟩) (Nat.lt_of_lt_of_le hylt hbw.size)).trans gy0, (h.cell (p := ⟨bb, offb + j * 4 + 1, none⟩) (Nat.lt_of_lt_of_le hylt hbw.size)).trans gy1, (h.cell (p := ⟨bb, offb + j * 4 + 1 + 1, none⟩) (Nat.lt_of_lt_of_le hylt hbw.size)).trans gy2, (h.cell (p := ⟨bb, offb + j * 4 + 1 + 2, none⟩) (Nat.lt_of_lt_of_le hylt hbw.size)).trans gy3⟩)
        clear hx hy hxc hyc hd HS hbw hxlt hylt
        have hs := str_eq nmx nmy
        cases bv with
        | true =>
          cases c : decide (nmx = nmy) with
          | true =>
            rw [c] at hs HD
            clear c
            go_wp2_with fail
            go_region_held3 (fun w' => w'.cell? ⟨ba, offa + j * 4, none⟩ = some (.string nmx) ∧ w'.cell? ⟨ba, offa + j * 4 + 1, none⟩ = some (.int .i64 kx) ∧ w'.cell? ⟨ba, offa + j * 4 + 1 + 1, none⟩ = some (.string nx) ∧ w'.cell? ⟨ba, offa + j * 4 + 1 + 2, none⟩ = some (.slice hx'.oa lx.length hx'.cap) ∧ w'.cell? ⟨bb, offb + j * 4, none⟩ = some (.string nmy) ∧ w'.cell? ⟨bb, offb + j * 4 + 1, none⟩ = some (.int .i64 ky) ∧ w'.cell? ⟨bb, offb + j * 4 + 1 + 1, none⟩ = some (.string ny) ∧ w'.cell? ⟨bb, offb + j * 4 + 1 + 2, none⟩ = some (.slice hy'.oa ly.length hy'.cap)) (first | (refine ⟨?_, ?_, ?_, ?_, ?_, ?_, ?_, ?_⟩ <;> assumption) | go_keep)
              (first | (go_at_call 26; refine (hc.out wo.drew (by exact (Below.refl _ _).drew)).mono ?_; rintro e w1 ⟨rfl, hb1'⟩; have hb1 := undrew2 hb1'; obtain ⟨u0, u1, u2, u3, u4, u5, u6, u7⟩ := HQ.out w1 hb1; have HB1 := Lib.hid (HBW.out.trans (hb1.mono HBW.out.size)); clear hb1' hb1))
            go_wp2
            go_quiet (fail)
            have HBQ := Lib.hid (show Below w.heap.size w (w1.drewN nq) from ⟨HB1.out.os, HB1.out.tape, HB1.out.output, HB1.out.size, HB1.out.block⟩)
            clear u0 u1 u2 u3 u4 u5 u6 u7
            go_wp2
            go_roundw
            case rel => exact ⟨j + 1, by omega, by go_num, by rw [← HD.out]; simp, HBQ.out⟩
            case measure => simp [intOf]; omega
          | false =>
            rw [c] at hs HD
            clear c
            go_wp2_with fail
            go_region_held3 (fun w' => w'.cell? ⟨ba, offa + j * 4, none⟩ = some (.string nmx) ∧ w'.cell? ⟨ba, offa + j * 4 + 1, none⟩ = some (.int .i64 kx) ∧ w'.cell? ⟨ba, offa + j * 4 + 1 + 1, none⟩ = some (.string nx) ∧ w'.cell? ⟨ba, offa + j * 4 + 1 + 2, none⟩ = some (.slice hx'.oa lx.length hx'.cap) ∧ w'.cell? ⟨bb, offb + j * 4, none⟩ = some (.string nmy) ∧ w'.cell? ⟨bb, offb + j * 4 + 1, none⟩ = some (.int .i64 ky) ∧ w'.cell? ⟨bb, offb + j * 4 + 1 + 1, none⟩ = some (.string ny) ∧ w'.cell? ⟨bb, offb + j * 4 + 1 + 2, none⟩ = some (.slice hy'.oa ly.length hy'.cap)) (first | (refine ⟨?_, ?_, ?_, ?_, ?_, ?_, ?_, ?_⟩ <;> assumption) | go_keep)
              (first | (go_at_call 26; refine (hc.out wo.drew (by exact (Below.refl _ _).drew)).mono ?_; rintro e w1 ⟨rfl, hb1'⟩; have hb1 := undrew2 hb1'; obtain ⟨u0, u1, u2, u3, u4, u5, u6, u7⟩ := HQ.out w1 hb1; have HB1 := Lib.hid (HBW.out.trans (hb1.mono HBW.out.size)); clear hb1' hb1))
            go_wp2
            go_quiet (fail)
            have HBQ := Lib.hid (show Below w.heap.size w (w1.drewN nq) from ⟨HB1.out.os, HB1.out.tape, HB1.out.output, HB1.out.size, HB1.out.block⟩)
            clear u0 u1 u2 u3 u4 u5 u6 u7
            go_wp2
            go_ret
            exact ⟨by rw [← HD.out]; first | done | rfl, HBQ.out⟩
        | false =>
          go_wp2_with fail
          go_region_held3 (fun w' => w'.cell? ⟨ba, offa + j * 4, none⟩ = some (.string nmx) ∧ w'.cell? ⟨ba, offa + j * 4 + 1, none⟩ = some (.int .i64 kx) ∧ w'.cell? ⟨ba, offa + j * 4 + 1 + 1, none⟩ = some (.string nx) ∧ w'.cell? ⟨ba, offa + j * 4 + 1 + 2, none⟩ = some (.slice hx'.oa lx.length hx'.cap) ∧ w'.cell? ⟨bb, offb + j * 4, none⟩ = some (.string nmy) ∧ w'.cell? ⟨bb, offb + j * 4 + 1, none⟩ = some (.int .i64 ky) ∧ w'.cell? ⟨bb, offb + j * 4 + 1 + 1, none⟩ = some (.string ny) ∧ w'.cell? ⟨bb, offb + j * 4 + 1 + 2, none⟩ = some (.slice hy'.oa ly.length hy'.cap)) (first | (refine ⟨?_, ?_, ?_, ?_, ?_, ?_, ?_, ?_⟩ <;> assumption) | go_keep)
            (first | (go_at_call 26; refine (hc.out wo.drew (by exact (Below.refl _ _).drew)).mono ?_; rintro e w1 ⟨rfl, hb1'⟩; have hb1 := undrew2 hb1'; obtain ⟨u0, u1, u2, u3, u4, u5, u6, u7⟩ := HQ.out w1 hb1; have HB1 := Lib.hid (HBW.out.trans (hb1.mono HBW.out.size)); clear hb1' hb1))
          go_wp2
          go_quiet (fail)
          have HBQ := Lib.hid (show Below w.heap.size w (w1.drewN nq) from ⟨HB1.out.os, HB1.out.tape, HB1.out.output, HB1.out.size, HB1.out.block⟩)
          clear u0 u1 u2 u3 u4 u5 u6 u7
          go_wp2
          go_ret
          exact ⟨by rw [← HD.out]; simp, HBQ.out⟩
      · have t1 : decide ((j : Int) < la.length) = false := by simp; omega
        obtain rfl : j = la.length := by omega
        have HZ := Lib.hid (show true = R by rw [← HS.out, eqL_end _ HL.out])
        go_wp2
        go_ret
        exact ⟨by rw [← HZ.out]; first | done | rfl, hbw⟩
  · have t0 : ((la.length : Int) != (lb.length : Int)) = true := by simp; omega
    have HR := Lib.hid (show R = false by rw [hR, eqL_len _ hl])
    clear hl hR
    go_enter Tryz.func25, Tryz.ntmps25
    go_wp2_with fail
    go_ret
    exact ⟨by rw [HR.out]; first | done | rfl, Below.refl _ _⟩

end Go.Proofs.YtgogdcpgfmndnaaGreatDoor
