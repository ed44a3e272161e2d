/-
  SameRv of the reference's text. Conditions: what is compared lies in the heap.
-/
import Derived.Test.YtgogdcpgfmndnaaGreatDoorTRefD
namespace Go.Proofs.YtgogdcpgfmndnaaGreatDoor
open Go.RowKit

set_option maxRecDepth 100000 in
set_option maxHeartbeats 16000000 in
theorem rSameRv_any (a b : Rv5) (w : World) (hA : RvH w a) (hB : RvH w b) : Calls Tryz.prog 87 #[rvV a, rvV b] w fun e w' => e = .returned (.bool (rvEq a b)) ∧ Below w.heap.size w w' := by
  obtain ⟨rk1, ⟨oa, capa⟩, la, ⟨pn1, ph1, pp1⟩, rn1, rr1⟩ := a
  obtain ⟨rk2, ⟨ob, capb⟩, lb, ⟨pn2, ph2, pp2⟩, rn2, rr2⟩ := b
  obtain ⟨-, ⟨ha1, ha2, ha3, ha4⟩, hA5⟩ := hA
  obtain ⟨-, ⟨hb1, hb2, hb3, hb4⟩, hB5⟩ := hB
  dsimp only at ha1 ha2 ha3 hb1 hb2 hb3
  unfold maxLen at ha2 hb2
  replace ha3 := Lib.hid ha3
  replace hb3 := Lib.hid hb3
  replace ha4 := Lib.hid ha4
  replace hb4 := Lib.hid hb4
  obtain ⟨R, hR⟩ : ∃ R, R = rvEq ⟨rk1, ⟨oa, capa⟩, la, ⟨pn1, ph1, pp1⟩, rn1, rr1⟩ ⟨rk2, ⟨ob, capb⟩, lb, ⟨pn2, ph2, pp2⟩, rn2, rr2⟩ := ⟨_, rfl⟩
  rw [← hR]
  replace hR : R = (decide (rk1 = rk2) && decide (rn1 = rn2) && decide (rr1 = rr2) && plEq ⟨pn1, ph1, pp1⟩ ⟨pn2, ph2, pp2⟩ && eqL opEq la lb) := hR.trans (by rfl)
  have t0 : (rk1 != rk2) = !decide (rk1 = rk2) := by rw [Bool.eq_iff_iff]; simp
  have t1 := str_eq rn1 rn2
  have t2 := str_eq rr1 rr2
  have hc2 : ∀ W, Below w.heap.size w W → Calls Tryz.prog 86 #[plV ⟨pn1, ph1, pp1⟩, plV ⟨pn2, ph2, pp2⟩] W fun e w' => e = .returned (.bool (plEq ⟨pn1, ph1, pp1⟩ ⟨pn2, ph2, pp2⟩)) ∧ Below W.heap.size W w' := fun W hW => rSamePlace_any _ _ W (hA5.below hW) (hB5.below hW)
  obtain ⟨b0, hb0⟩ : ∃ b, b = (decide (rk1 = rk2)) := ⟨_, rfl⟩
  rw [← hb0] at hR t0
  clear hb0
  obtain ⟨b1, hb1'⟩ : ∃ b, b = (decide (rn1 = rn2)) := ⟨_, rfl⟩
  rw [← hb1'] at hR t1
  clear hb1'
  obtain ⟨b2, hb2'⟩ : ∃ b, b = (decide (rr1 = rr2)) := ⟨_, rfl⟩
  rw [← hb2'] at hR t2
  clear hb2'
  obtain ⟨b3, hb3'⟩ : ∃ b, b = (plEq ⟨pn1, ph1, pp1⟩ ⟨pn2, ph2, pp2⟩) := ⟨_, rfl⟩
  rw [← hb3'] at hR hc2
  clear hb3'
  simp only [plV, plC] at hc2
  replace hc2 := Lib.hid hc2
  simp only [rvV, rvC, plC, List.cons_append, List.nil_append]
  obtain ⟨W0, hW0⟩ : ∃ W, W = ((w.alloc (.cells #[.int .i64 rk1, .slice oa la.length capa, .string pn1, .slice ph1.oa pp1.length ph1.cap, .string rn1, .string rr1] 49)).alloc (.cells #[.int .i64 rk2, .slice ob lb.length capb, .string pn2, .slice ph2.oa pp2.length ph2.cap, .string rn2, .string rr2] 49)) := ⟨_, rfl⟩
  have hbx := box_two w #[.int .i64 rk1, .slice oa la.length capa, .string pn1, .slice ph1.oa pp1.length ph1.cap, .string rn1, .string rr1] #[.int .i64 rk2, .slice ob lb.length capb, .string pn2, .slice ph2.oa pp2.length ph2.cap, .string rn2, .string rr2] 49 49
  rw [← hW0] at hbx
  have HB0 := Lib.hid hbx.1
  have HBX := Lib.hid hbx.2
  have HCL := Lib.hid (show ∀ w' : World, w'.heap[w.heap.size]? = some (.cells #[.int .i64 rk1, .slice oa la.length capa, .string pn1, .slice ph1.oa pp1.length ph1.cap, .string rn1, .string rr1] 49) → w'.heap[w.heap.size + 1]? = some (.cells #[.int .i64 rk2, .slice ob lb.length capb, .string pn2, .slice ph2.oa pp2.length ph2.cap, .string rn2, .string rr2] 49) → (w'.cell? ⟨w.heap.size, 0, none⟩ = some (.int .i64 rk1) ∧ w'.cell? ⟨w.heap.size, 1, none⟩ = some (.slice oa la.length capa) ∧ w'.cell? ⟨w.heap.size, 4, none⟩ = some (.string rn1) ∧ w'.cell? ⟨w.heap.size, 5, none⟩ = some (.string rr1) ∧ w'.cell? ⟨w.heap.size + 1, 0, none⟩ = some (.int .i64 rk2) ∧ w'.cell? ⟨w.heap.size + 1, 1, none⟩ = some (.slice ob lb.length capb) ∧ w'.cell? ⟨w.heap.size + 1, 4, none⟩ = some (.string rn2) ∧ w'.cell? ⟨w.heap.size + 1, 5, none⟩ = some (.string rr2)) from fun w' h1 h2 => by
    simp [World.cell?, h1, h2])
  clear hbx
  cases b3 with
  | false =>
    have HR := Lib.hid (show R = false by rw [hR]; simp)
    clear hR
    go_enter Tryz.func87, Tryz.ntmps87
    go_wp2_with (go_at_call 86; refine (hc2.out _ (by first | exact HB0.out | (rw [← hW0]; exact HB0.out))).mono ?_; rintro e w1 ⟨rfl, hb1'⟩; try rw [← hW0] at hb1'; have hX0 := keepB HBX.out.1 hb1'; have hX1 := keepB HBX.out.2 hb1'; obtain ⟨x0, x1, x4, x5, y0, y1, y4, y5⟩ := HCL.out w1 hX0 hX1; have B1 : Below w.heap.size w w1 := HB0.out.trans (hb1'.mono HB0.out.size); have HX0 := Lib.hid hX0; have HX1 := Lib.hid hX1; clear hb1' hX0 hX1; replace B1 := Lib.hid B1)
    go_ret
    exact ⟨by rw [HR.out]; first | done | rfl, B1.out⟩
  | true =>
  cases b0 with
  | false =>
    rw [Bool.not_false] at t0
    have HR := Lib.hid (show R = false by rw [hR]; rfl)
    clear hR
    go_enter Tryz.func87, Tryz.ntmps87
    go_wp2_with (go_at_call 86; refine (hc2.out _ (by first | exact HB0.out | (rw [← hW0]; exact HB0.out))).mono ?_; rintro e w1 ⟨rfl, hb1'⟩; try rw [← hW0] at hb1'; have hX0 := keepB HBX.out.1 hb1'; have hX1 := keepB HBX.out.2 hb1'; obtain ⟨x0, x1, x4, x5, y0, y1, y4, y5⟩ := HCL.out w1 hX0 hX1; have B1 : Below w.heap.size w w1 := HB0.out.trans (hb1'.mono HB0.out.size); have HX0 := Lib.hid hX0; have HX1 := Lib.hid hX1; clear hb1' hX0 hX1; replace B1 := Lib.hid B1)
    go_ret
    exact ⟨by rw [HR.out]; first | done | rfl, B1.out⟩
  | true =>
  rw [Bool.not_true] at t0
  cases b1 with
  | false =>
    have HR := Lib.hid (show R = false by rw [hR]; rfl)
    clear hR
    go_enter Tryz.func87, Tryz.ntmps87
    go_wp2_with (go_at_call 86; refine (hc2.out _ (by first | exact HB0.out | (rw [← hW0]; exact HB0.out))).mono ?_; rintro e w1 ⟨rfl, hb1'⟩; try rw [← hW0] at hb1'; have hX0 := keepB HBX.out.1 hb1'; have hX1 := keepB HBX.out.2 hb1'; obtain ⟨x0, x1, x4, x5, y0, y1, y4, y5⟩ := HCL.out w1 hX0 hX1; have B1 : Below w.heap.size w w1 := HB0.out.trans (hb1'.mono HB0.out.size); have HX0 := Lib.hid hX0; have HX1 := Lib.hid hX1; clear hb1' hX0 hX1; replace B1 := Lib.hid B1)
    go_ret
    exact ⟨by rw [HR.out]; first | done | rfl, B1.out⟩
  | true =>
  cases b2 with
  | false =>
    have HR := Lib.hid (show R = false by rw [hR]; rfl)
    clear hR
    go_enter Tryz.func87, Tryz.ntmps87
    go_wp2_with (go_at_call 86; refine (hc2.out _ (by first | exact HB0.out | (rw [← hW0]; exact HB0.out))).mono ?_; rintro e w1 ⟨rfl, hb1'⟩; try rw [← hW0] at hb1'; have hX0 := keepB HBX.out.1 hb1'; have hX1 := keepB HBX.out.2 hb1'; obtain ⟨x0, x1, x4, x5, y0, y1, y4, y5⟩ := HCL.out w1 hX0 hX1; have B1 : Below w.heap.size w w1 := HB0.out.trans (hb1'.mono HB0.out.size); have HX0 := Lib.hid hX0; have HX1 := Lib.hid hX1; clear hb1' hX0 hX1; replace B1 := Lib.hid B1)
    go_ret
    exact ⟨by rw [HR.out]; first | done | rfl, B1.out⟩
  | true =>
    by_cases hl : la.length = lb.length
    · skip
      have HR := Lib.hid (show R = eqL opEq la lb by rw [hR]; rfl)
      have t3 : ((la.length : Int) != (lb.length : Int)) = false := by simp; omega
      have HL := Lib.hid hl
      have hl1 : la.length ≤ lb.length := by omega
      clear hl hR
      go_enter Tryz.func87, Tryz.ntmps87
      go_wp2_with (go_at_call 86; refine (hc2.out _ (by first | exact HB0.out | (rw [← hW0]; exact HB0.out))).mono ?_; rintro e w1 ⟨rfl, hb1'⟩; try rw [← hW0] at hb1'; have hX0 := keepB HBX.out.1 hb1'; have hX1 := keepB HBX.out.2 hb1'; obtain ⟨x0, x1, x4, x5, y0, y1, y4, y5⟩ := HCL.out w1 hX0 hX1; have B1 : Below w.heap.size w w1 := HB0.out.trans (hb1'.mono HB0.out.size); have HX0 := Lib.hid hX0; have HX1 := Lib.hid hX1; clear hb1' hX0 hX1; replace B1 := Lib.hid B1)
      clear hW0 x0 x1 x4 x5 y0 y1 y4 y5 t0 t1 t2 HBX HB0
      go_loopw [6] (fun u wr => ∃ j : Nat, j ≤ la.length ∧ u = .int .i64 j ∧ eqL opEq (la.drop j) (lb.drop j) = R ∧ Below w.heap.size w wr ∧ wr.heap[w.heap.size]? = some (.cells #[.int .i64 rk1, .slice oa la.length capa, .string pn1, .slice ph1.oa pp1.length ph1.cap, .string rn1, .string rr1] 49) ∧ wr.heap[w.heap.size + 1]? = some (.cells #[.int .i64 rk2, .slice ob lb.length capb, .string pn2, .slice ph2.oa pp2.length ph2.cap, .string rn2, .string rr2] 49)) (fun u _ => la.length - (intOf u).toNat)
      case atStart => exact ⟨0, by omega, rfl, by simpa using HR.out.symm, B1.out, HX0.out, HX1.out⟩
      case round =>
        clear HX0 HX1 HR B1
        obtain ⟨j, hj, rfl, hs, hbw, hx0, hx1⟩ := hrel
        obtain ⟨wo, rfl⟩ : ∃ wo : World, wo = wr := ⟨_, rfl⟩
        obtain ⟨x0, x1, x4, x5, y0, y1, y4, y5⟩ := HCL.out wo hx0 hx1
        have hlt0 := (Array.getElem?_eq_some_iff.1 hx0).1
        have hlt1 := (Array.getElem?_eq_some_iff.1 hx1).1
        have HS := Lib.hid hs
        have HX0 := Lib.hid hx0
        have HX1 := Lib.hid hx1
        clear hs hx0 hx1 x0 x4 x5 y0 y4 y5
        by_cases hjl : j < la.length
        · have t1 : decide ((j : Int) < la.length) = true := by simp; omega
          obtain ⟨ba, offa, rfl, hxlt, hxc⟩ := ha3.out (by omega)
          obtain ⟨bb, offb, rfl, hylt, hyc⟩ := hb3.out (by omega)
          have hjb : j < lb.length := by omega
          obtain ⟨x, y, hx, hy, hd⟩ := drop_two opEq hjl hjb
          have HD := Lib.hid (hd.symm.trans HS.out)
          have hc := fun W (hW : Below wo.heap.size wo W) => rSameOper_any x y W ((OpH.below (ha4.out x (List.mem_of_getElem? hx)) hbw).below hW) ((OpH.below (hb4.out y (List.mem_of_getElem? hy)) hbw).below hW)
          obtain ⟨bv, hbv⟩ : ∃ b, b = opEq x y := ⟨_, rfl⟩
          rw [← hbv] at hc HD
          clear hbv
          obtain ⟨onx, oix, ⟨pnx, phx, ppx⟩⟩ := x
          obtain ⟨ony, oiy, ⟨pny, phy, ppy⟩⟩ := y
          simp only [opV, opC, plC, List.cons_append, List.nil_append] at hc
          replace hc := Lib.hid hc
          have gx0 : wo.cell? ⟨ba, offa + j * 4, none⟩ = some (.bool onx) := (hbw.cell (p := ⟨ba, offa + j * 4, none⟩) hxlt).trans (by simpa using hxc j _ hx 0 _ rfl)
          have gx1 : wo.cell? ⟨ba, offa + j * 4 + 1, none⟩ = some (.int .i64 oix) := (hbw.cell (p := ⟨ba, offa + j * 4 + 1, none⟩) hxlt).trans (by simpa using hxc j _ hx 1 _ rfl)
          have gx2 : wo.cell? ⟨ba, offa + j * 4 + 2, none⟩ = some (.string pnx) := (hbw.cell (p := ⟨ba, offa + j * 4 + 2, none⟩) hxlt).trans (by simpa using hxc j _ hx 2 _ rfl)
          have gx3 : wo.cell? ⟨ba, offa + j * 4 + 3, none⟩ = some (.slice phx.oa ppx.length phx.cap) := (hbw.cell (p := ⟨ba, offa + j * 4 + 3, none⟩) hxlt).trans (by simpa using hxc j _ hx 3 _ rfl)
          have gy0 : wo.cell? ⟨bb, offb + j * 4, none⟩ = some (.bool ony) := (hbw.cell (p := ⟨bb, offb + j * 4, none⟩) hylt).trans (by simpa using hyc j _ hy 0 _ rfl)
          have gy1 : wo.cell? ⟨bb, offb + j * 4 + 1, none⟩ = some (.int .i64 oiy) := (hbw.cell (p := ⟨bb, offb + j * 4 + 1, none⟩) hylt).trans (by simpa using hyc j _ hy 1 _ rfl)
          have gy2 : wo.cell? ⟨bb, offb + j * 4 + 2, none⟩ = some (.string pny) := (hbw.cell (p := ⟨bb, offb + j * 4 + 2, none⟩) hylt).trans (by simpa using hyc j _ hy 2 _ rfl)
          have gy3 : wo.cell? ⟨bb, offb + j * 4 + 3, none⟩ = some (.slice phy.oa ppy.length phy.cap) := (hbw.cell (p := ⟨bb, offb + j * 4 + 3, none⟩) hylt).trans (by simpa using hyc j _ hy 3 _ rfl)
          have HBW := Lib.hid hbw
          have HQ := Lib.hid (show ∀ w', Below wo.heap.size wo w' → w'.cell? ⟨w.heap.size, 1, none⟩ = some (.slice (some ⟨ba, offa, none⟩) la.length capa) ∧ w'.cell? ⟨w.heap.size + 1, 1, none⟩ = some (.slice (some ⟨bb, offb, none⟩) lb.length capb) ∧ w'.cell? ⟨ba, offa + j * 4, none⟩ = some (.bool onx) ∧ w'.cell? ⟨ba, offa + j * 4 + 1, none⟩ = some (.int .i64 oix) ∧ w'.cell? ⟨ba, offa + j * 4 + 2, none⟩ = some (.string pnx) ∧ w'.cell? ⟨ba, offa + j * 4 + 3, none⟩ = some (.slice phx.oa ppx.length phx.cap) ∧ w'.cell? ⟨bb, offb + j * 4, none⟩ = some (.bool ony) ∧ w'.cell? ⟨bb, offb + j * 4 + 1, none⟩ = some (.int .i64 oiy) ∧ w'.cell? ⟨bb, offb + j * 4 + 2, none⟩ = some (.string pny) ∧ w'.cell? ⟨bb, offb + j * 4 + 3, none⟩ = some (.slice phy.oa ppy.length phy.cap) from fun w' h => ⟨(h.cell (p := ⟨w.heap.size, 1, none⟩) hlt0).trans x1, (h.cell (p := ⟨w.heap.size + 1, 1, none⟩) hlt1).trans y1, (h.cell (p := ⟨ba, offa + j * 4, none⟩) (Nat.lt_of_lt_of_le hxlt hbw.size)).trans gx0, (h.cell (p := ⟨ba, offa + j * 4 + 1, none⟩) (Nat.lt_of_lt_of_le hxlt hbw.size)).trans gx1, (h.cell (p := ⟨ba, offa + j * 4 + 2, none⟩) (Nat.lt_of_lt_of_le hxlt hbw.size)).trans gx2, (h.cell (p := ⟨ba, offa + j * 4 + 3, none⟩) (Nat.lt_of_lt_of_le hxlt hbw.size)).trans gx3, (h.cell (p := ⟨bb, offb + j * 4, none⟩) (Nat.lt_of_lt_of_le hylt hbw.size)).trans gy0, (h.cell (p := ⟨bb, offb + j * 4 + 1, none⟩) (Nat.lt_of_lt_of_le hylt hbw.size)).trans gy1, (h.cell (p := ⟨bb, offb + j * 4 + 2, none⟩) (Nat.lt_of_lt_of_le hylt hbw.size)).trans gy2, (h.cell (p := ⟨bb, offb + j * 4 + 3, none⟩) (Nat.lt_of_lt_of_le hylt hbw.size)).trans gy3⟩)
          clear hx hy hxc hyc hd HS hbw hxlt hylt
          cases bv with
          | true =>
            go_wp2_with fail
            go_region_held3 (fun w' => w'.cell? ⟨w.heap.size, 1, none⟩ = some (.slice (some ⟨ba, offa, none⟩) la.length capa) ∧ w'.cell? ⟨w.heap.size + 1, 1, none⟩ = some (.slice (some ⟨bb, offb, none⟩) lb.length capb) ∧ w'.cell? ⟨ba, offa + j * 4, none⟩ = some (.bool onx) ∧ w'.cell? ⟨ba, offa + j * 4 + 1, none⟩ = some (.int .i64 oix) ∧ w'.cell? ⟨ba, offa + j * 4 + 2, none⟩ = some (.string pnx) ∧ w'.cell? ⟨ba, offa + j * 4 + 3, none⟩ = some (.slice phx.oa ppx.length phx.cap) ∧ w'.cell? ⟨bb, offb + j * 4, none⟩ = some (.bool ony) ∧ w'.cell? ⟨bb, offb + j * 4 + 1, none⟩ = some (.int .i64 oiy) ∧ w'.cell? ⟨bb, offb + j * 4 + 2, none⟩ = some (.string pny) ∧ w'.cell? ⟨bb, offb + j * 4 + 3, none⟩ = some (.slice phy.oa ppy.length phy.cap)) (first | (refine ⟨?_, ?_, ?_, ?_, ?_, ?_, ?_, ?_, ?_, ?_⟩ <;> assumption) | go_keep)
              (first | (go_at_call 88; refine (hc.out wo.drew (by exact (Below.refl _ _).drew)).mono ?_; rintro e w2 ⟨rfl, hb1'⟩; have hb1 := undrew2 hb1'; obtain ⟨u0, u1, u2, u3, u4, u5, u6, u7, u8, u9⟩ := HQ.out w2 hb1; have HX2 := Lib.hid ((hb1.block _ hlt0).trans HX0.out); have HX3 := Lib.hid ((hb1.block _ hlt1).trans HX1.out); have HB1 := Lib.hid (HBW.out.trans (hb1.mono HBW.out.size)); clear hb1' hb1))
            clear u0 u1 u2 u3 u4 u5 u6 u7 u8 u9
            go_wp2
            go_roundw
            case rel => exact ⟨j + 1, by omega, by go_num, by rw [← HD.out]; simp, HB1.out, HX2.out, HX3.out⟩
            case measure => simp [intOf]; omega
          | false =>
            go_wp2_with fail
            go_region_held3 (fun w' => w'.cell? ⟨w.heap.size, 1, none⟩ = some (.slice (some ⟨ba, offa, none⟩) la.length capa) ∧ w'.cell? ⟨w.heap.size + 1, 1, none⟩ = some (.slice (some ⟨bb, offb, none⟩) lb.length capb) ∧ w'.cell? ⟨ba, offa + j * 4, none⟩ = some (.bool onx) ∧ w'.cell? ⟨ba, offa + j * 4 + 1, none⟩ = some (.int .i64 oix) ∧ w'.cell? ⟨ba, offa + j * 4 + 2, none⟩ = some (.string pnx) ∧ w'.cell? ⟨ba, offa + j * 4 + 3, none⟩ = some (.slice phx.oa ppx.length phx.cap) ∧ w'.cell? ⟨bb, offb + j * 4, none⟩ = some (.bool ony) ∧ w'.cell? ⟨bb, offb + j * 4 + 1, none⟩ = some (.int .i64 oiy) ∧ w'.cell? ⟨bb, offb + j * 4 + 2, none⟩ = some (.string pny) ∧ w'.cell? ⟨bb, offb + j * 4 + 3, none⟩ = some (.slice phy.oa ppy.length phy.cap)) (first | (refine ⟨?_, ?_, ?_, ?_, ?_, ?_, ?_, ?_, ?_, ?_⟩ <;> assumption) | go_keep)
              (first | (go_at_call 88; refine (hc.out wo.drew (by exact (Below.refl _ _).drew)).mono ?_; rintro e w2 ⟨rfl, hb1'⟩; have hb1 := undrew2 hb1'; obtain ⟨u0, u1, u2, u3, u4, u5, u6, u7, u8, u9⟩ := HQ.out w2 hb1; have HX2 := Lib.hid ((hb1.block _ hlt0).trans HX0.out); have HX3 := Lib.hid ((hb1.block _ hlt1).trans HX1.out); have HB1 := Lib.hid (HBW.out.trans (hb1.mono HBW.out.size)); clear hb1' hb1))
            clear u0 u1 u2 u3 u4 u5 u6 u7 u8 u9
            go_wp2
            go_ret
            exact ⟨by rw [← HD.out]; first | done | rfl, HB1.out⟩
        · have t1 : decide ((j : Int) < la.length) = false := by simp; omega
          obtain rfl : j = la.length := by omega
          have HZ := Lib.hid (show true = R by rw [← HS.out, eqL_end _ HL.out])
          go_wp2
          go_ret
          exact ⟨by rw [← HZ.out]; first | done | rfl, hbw⟩
    · have t3 : ((la.length : Int) != (lb.length : Int)) = true := by simp; omega
      have HR := Lib.hid (show R = false by rw [hR, eqL_len _ hl]; rfl)
      clear hR
      go_enter Tryz.func87, Tryz.ntmps87
      go_wp2_with (go_at_call 86; refine (hc2.out _ (by first | exact HB0.out | (rw [← hW0]; exact HB0.out))).mono ?_; rintro e w1 ⟨rfl, hb1'⟩; try rw [← hW0] at hb1'; have hX0 := keepB HBX.out.1 hb1'; have hX1 := keepB HBX.out.2 hb1'; obtain ⟨x0, x1, x4, x5, y0, y1, y4, y5⟩ := HCL.out w1 hX0 hX1; have B1 : Below w.heap.size w w1 := HB0.out.trans (hb1'.mono HB0.out.size); have HX0 := Lib.hid hX0; have HX1 := Lib.hid hX1; clear hb1' hX0 hX1; replace B1 := Lib.hid B1)
      go_ret
      exact ⟨by rw [HR.out]; first | done | rfl, B1.out⟩

end Go.Proofs.YtgogdcpgfmndnaaGreatDoor
