/-
  SameBlock of the reference's text. Conditions: what is compared lies in the heap; the statements' comparison keeps its contract.
-/
import Derived.Test.YtgogdcpgfmndnaaGreatDoorTRefA
import Derived.Deep.MidRow
import Derived.StillTailTactics
namespace Go.Proofs.YtgogdcpgfmndnaaGreatDoor
open Go.RowKit

theorem wpStill_load_mid {P : Program} {ops : Array Oper} {w : World} {Q : Act → Prop} {a : Act} {o : Oper} {rest : List Oper} (hw : Region.wanted o (yielded ops a.tmps) = true) (ty : TypeId) (x : Operand) (ho : o.op = .load ty x)
    (b off : Nat) (hx : a.eval x = .pointer (some ⟨b, off, none⟩)) (cs : List Value) (d : TypeDesc) (hc : w.rangeAt b off cs) (hu : P.underlying ty = some d) (hd : d.isRow = true) (hi : (P.info? ty).map (·.size) = some cs.length)
    (h : wpStill P ops w Q rest (a.put o.dst (.agg cs.toArray))) : wpStill P ops w Q (o :: rest) a := by
  unfold wpStill
  rw [if_pos hw]
  unfold Oper.still execOp
  simp only [ho, hx, Instr.loadAt, Instr.sureAddr, Sem.run_bind, Sem.run_pure, Result.andThen_ok, run_loadVar_mid w b off ty cs d hc hu hd hi]
  exact ⟨rfl, h⟩

set_option maxRecDepth 100000 in
set_option maxHeartbeats 8000000 in
theorem rSameBlock_of (n : Nat) (ihS : ∀ (x y : St5) (w : World), StH n w x → StH n w y → Calls Tryz.prog 62 #[stV x, stV y] w fun e w' => e = .returned (.bool (stEq x y)) ∧ Below w.heap.size w w') (ha hb : Hd) (la lb : List St5) (w : World) (hA : Row w ha 21 la stC (StH n w)) (hB : Row w hb 21 lb stC (StH n w)) :
    Calls Tryz.prog 27 #[.slice ha.oa la.length ha.cap, .slice hb.oa lb.length hb.cap] w fun e w' => e = .returned (.bool (eqL stEq la lb)) ∧ Below w.heap.size w w' := by
  obtain ⟨oa, capa⟩ := ha
  obtain ⟨ob, capb⟩ := hb
  obtain ⟨ha1, ha2, ha3, ha4⟩ := hA
  obtain ⟨hb1, hb2, hb3, hb4⟩ := hB
  dsimp only at ha1 ha2 ha3 hb1 hb2 hb3 ⊢
  unfold maxLen at ha2 hb2
  replace ha3 := Lib.hid ha3
  replace hb3 := Lib.hid hb3
  replace ha4 := Lib.hid ha4
  replace hb4 := Lib.hid hb4
  replace ihS := Lib.hid ihS
  obtain ⟨R, hR⟩ : ∃ R, R = eqL stEq la lb := ⟨_, rfl⟩
  rw [← hR]
  by_cases hl : la.length = lb.length
  · have t0 : ((la.length : Int) != (lb.length : Int)) = false := by simp; omega
    have HR := Lib.hid hR
    have HL := Lib.hid hl
    have hl1 : la.length ≤ lb.length := by omega
    clear hl hR
    go_enter Tryz.func27, Tryz.ntmps27
    go_wp2_with fail
    go_loopw [5] (fun u wr => ∃ j : Nat, j ≤ la.length ∧ u = .int .i64 j ∧ eqL stEq (la.drop j) (lb.drop j) = R ∧ Below w.heap.size w wr) (fun u _ => la.length - (intOf u).toNat)
    case atStart => exact ⟨0, by omega, rfl, by simpa using HR.out.symm, Below.refl _ _⟩
    case round =>
      clear HR
      obtain ⟨j, hj, rfl, hs, hbw⟩ := hrel
      obtain ⟨wo, rfl⟩ : ∃ wo : World, wo = wr := ⟨_, rfl⟩
      have HS := Lib.hid hs
      clear hs
      by_cases hjl : j < la.length
      · have t1 : decide ((j : Int) < la.length) = true := by simp; omega
        obtain ⟨ba, offa, rfl, hxlt, hxc⟩ := ha3.out (by omega)
        obtain ⟨bb, offb, rfl, hylt, hyc⟩ := hb3.out (by omega)
        have hjb : j < lb.length := by omega
        obtain ⟨x, y, hx, hy, hd⟩ := drop_two stEq hjl hjb
        have HD := Lib.hid (hd.symm.trans HS.out)
        have hc := fun W (hW : Below wo.heap.size wo W) => ihS.out x y W (StH.below (StH.below (ha4.out x (List.mem_of_getElem? hx)) hbw) hW) (StH.below (StH.below (hb4.out y (List.mem_of_getElem? hy)) hbw) hW)
        have gx : wo.rangeAt ba (offa + j * 21) (stC x) := fun i v hv => (hbw.cell (p := ⟨ba, offa + j * 21 + i, none⟩) hxlt).trans (hxc j x hx i v hv)
        have gy : wo.rangeAt bb (offb + j * 21) (stC y) := fun i v hv => (hbw.cell (p := ⟨bb, offb + j * 21 + i, none⟩) hylt).trans (hyc j y hy i v hv)
        have gx' : wo.drew.rangeAt ba (offa + j * 21) (stC x) := fun i v hv => gx i v hv
        have gy' : wo.drew.rangeAt bb (offb + j * 21) (stC y) := fun i v hv => gy i v hv
        obtain ⟨bv, hbv⟩ : ∃ b, b = stEq x y := ⟨_, rfl⟩
        rw [← hbv] at hc HD
        clear hbv
        have hix := stC_info x
        have hiy := stC_info y
        unfold stV at hc
        generalize stC x = cx at gx gy gx' gy' hc hix
        generalize stC y = cy at gx gy gx' gy' hc hiy
        replace hc := Lib.hid hc
        have HBW := Lib.hid hbw
        clear hx hy hxc hyc hd HS hbw hxlt hylt gx gy
        cases bv with
        | true =>
          go_wp2_with fail
          refine wp_region_still_tail 8 (by kernel_rfl) (by kernel_rfl) ?_
          simp only [List.take_succ_cons, List.take_zero, List.drop_succ_cons, List.drop_zero]
          still_step
          still_step
          still_step
          refine wpStill_load_mid (by rfl) 52 (.tmp 20) rfl ba (offa + j * 21) rfl cx _ gx' Tryz.underlying52 rfl hix ?_
          simp only [Act.put, List.setIfInBounds_toArray, List.set_cons_zero, List.set_cons_succ]
          still_step
          still_step
          still_step
          refine wpStill_load_mid (by rfl) 52 (.tmp 24) rfl bb (offb + j * 21) rfl cy _ gy' Tryz.underlying52 rfl hiy ?_
          simp only [Act.put, List.setIfInBounds_toArray, List.set_cons_zero, List.set_cons_succ]
          refine wpStill_nil ?_
          change wpList _ _ _ _ _ wo.drew
          clear gx' gy' hix hiy
          go_wp2_with (go_at_call 62; refine (hc.out wo.drew (by exact (Below.refl _ _).drew)).mono ?_; rintro e w1 ⟨rfl, hb1'⟩; have hb1 := undrew2 hb1'; have HB1 := Lib.hid (HBW.out.trans (hb1.mono HBW.out.size)); clear hb1' hb1)
          go_roundw
          case rel => exact ⟨j + 1, by omega, by go_num, by rw [← HD.out]; simp, HB1.out⟩
          case measure => simp [intOf]; omega
        | false =>
          go_wp2_with fail
          refine wp_region_still_tail 8 (by kernel_rfl) (by kernel_rfl) ?_
          simp only [List.take_succ_cons, List.take_zero, List.drop_succ_cons, List.drop_zero]
          still_step
          still_step
          still_step
          refine wpStill_load_mid (by rfl) 52 (.tmp 20) rfl ba (offa + j * 21) rfl cx _ gx' Tryz.underlying52 rfl hix ?_
          simp only [Act.put, List.setIfInBounds_toArray, List.set_cons_zero, List.set_cons_succ]
          still_step
          still_step
          still_step
          refine wpStill_load_mid (by rfl) 52 (.tmp 24) rfl bb (offb + j * 21) rfl cy _ gy' Tryz.underlying52 rfl hiy ?_
          simp only [Act.put, List.setIfInBounds_toArray, List.set_cons_zero, List.set_cons_succ]
          refine wpStill_nil ?_
          change wpList _ _ _ _ _ wo.drew
          clear gx' gy' hix hiy
          go_wp2_with (go_at_call 62; refine (hc.out wo.drew (by exact (Below.refl _ _).drew)).mono ?_; rintro e w1 ⟨rfl, hb1'⟩; have hb1 := undrew2 hb1'; have HB1 := Lib.hid (HBW.out.trans (hb1.mono HBW.out.size)); clear hb1' hb1)
          go_ret
          exact ⟨by rw [← HD.out]; first | done | rfl, HB1.out⟩
      · have t1 : decide ((j : Int) < la.length) = false := by simp; omega
        obtain rfl : j = la.length := by omega
        have HZ := Lib.hid (show true = R by rw [← HS.out, eqL_end _ HL.out])
        go_wp2
        go_ret
        exact ⟨by rw [← HZ.out]; first | done | rfl, hbw⟩
  · have t0 : ((la.length : Int) != (lb.length : Int)) = true := by simp; omega
    have HR := Lib.hid (show R = false by rw [hR, eqL_len _ hl])
    clear hl hR
    go_enter Tryz.func27, Tryz.ntmps27
    go_wp2_with fail
    go_ret
    exact ⟨by rw [HR.out]; first | done | rfl, Below.refl _ _⟩
end Go.Proofs.YtgogdcpgfmndnaaGreatDoor
