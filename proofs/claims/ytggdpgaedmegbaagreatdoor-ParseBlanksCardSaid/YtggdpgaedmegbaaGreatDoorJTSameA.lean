/-
  slices.Equal over steps; samePlace, sameOper, sameType, sameSet of tree. Conditions: what is compared lies in the heap.
-/
import Derived.Test.YtggdpgaedmegbaaGreatDoorJPBox
import Derived.Test.YtggdpgaedmegbaaGreatDoorJTEqs
namespace Go.Proofs.YtggdpgaedmegbaaGreatDoor
open Go.RowKit

theorem strq_eq (s t : ByteArray) : (s.toList == t.toList) = decide (s = t) := by
  rw [Bool.eq_iff_iff, beq_iff_eq, decide_eq_true_eq, Lib.toList_data, Lib.toList_data]
  refine ⟨fun h => ?_, fun h => by rw [h]⟩
  rw [← strB_of s, ← strB_of t, bs, bs, h]

theorem entersq96 (args : Array Value) (w : World) : (callFunc 191 args).run Tryz.prog w = .ok (.enter 191 args) w := Go.Proofs.enters_of Tryz.func191 (by kernel_rfl) rfl args w
theorem entersq115 (args : Array Value) (w : World) : (callFunc 259 args).run Tryz.prog w = .ok (.enter 259 args) w := Go.Proofs.enters_of Tryz.func259 (by kernel_rfl) rfl args w

set_option maxRecDepth 100000 in
set_option maxHeartbeats 4000000 in
theorem eqStep_any (ha hb : Hd) (la lb : List ByteArray) (w : World) (hA : Row w ha 1 la stepC (fun _ => True)) (hB : Row w hb 1 lb stepC (fun _ => True)) :
    Calls Tryz.prog 301 #[.slice ha.oa la.length ha.cap, .slice hb.oa lb.length hb.cap] w fun e w' => e = .returned (.bool (eqL stepEq la lb)) ∧ Below w.heap.size w w' := by
  obtain ⟨oa, capa⟩ := ha
  obtain ⟨ob, capb⟩ := hb
  obtain ⟨ha1, ha2, ha3, -⟩ := hA
  obtain ⟨hb1, hb2, hb3, -⟩ := hB
  dsimp only at ha1 ha2 ha3 hb1 hb2 hb3 ⊢
  unfold maxLen at ha2 hb2
  replace ha3 := Lib.hid ha3
  replace hb3 := Lib.hid hb3
  obtain ⟨R, hR⟩ : ∃ R, R = eqL stepEq la lb := ⟨_, rfl⟩
  rw [← hR]
  replace hR := Lib.hid hR
  by_cases hl : la.length = lb.length
  · have t0 : ((la.length : Int) != (lb.length : Int)) = false := by simp; omega
    have hll := Lib.hid hl
    have hl1 : la.length ≤ lb.length := by omega
    have hl2 : lb.length ≤ la.length := by omega
    clear hl
    go_enter Tryz.func301, Tryz.ntmps301
    go_wp2_with fail
    go_loopw [13] (fun u wr => ∃ j : Nat, j ≤ la.length ∧ u = .int .i64 j ∧ eqL stepEq (la.drop j) (lb.drop j) = R ∧ Below w.heap.size w wr) (fun u _ => la.length - (intOf u).toNat)
    case atStart => exact ⟨0, by omega, rfl, by simpa using hR.out.symm, Below.refl _ _⟩
    case round =>
      obtain ⟨j, hj, rfl, hs, hbw⟩ := hrel
      have HS := Lib.hid hs
      clear hs
      by_cases hjl : j < la.length
      · have t1 : decide ((j : Int) < la.length) = true := by simp; omega
        obtain ⟨ba, offa, rfl, hxlt, hxc⟩ := ha3.out (by omega)
        obtain ⟨bb, offb, rfl, hylt, hyc⟩ := hb3.out (by omega)
        obtain ⟨x, hx⟩ : ∃ x, la[j]? = some x := ⟨_, List.getElem?_eq_getElem hjl⟩
        obtain ⟨y, hy⟩ : ∃ y, lb[j]? = some y := ⟨_, List.getElem?_eq_getElem (show j < lb.length by omega)⟩
        have hdx : la.drop j = x :: la.drop (j + 1) := by rw [List.drop_eq_getElem_cons hjl]; rw [List.getElem?_eq_getElem hjl] at hx; rw [Option.some.inj hx]
        have hdy : lb.drop j = y :: lb.drop (j + 1) := by
          have hjb : j < lb.length := by omega
          rw [List.drop_eq_getElem_cons hjb]; rw [List.getElem?_eq_getElem hjb] at hy; rw [Option.some.inj hy]
        have HD := Lib.hid (show (stepEq x y && eqL stepEq (la.drop (j + 1)) (lb.drop (j + 1))) = R by rw [← HS.out, hdx, hdy, eqL])
        have gx0 : wr.cell? ⟨ba, offa + j, none⟩ = some (.string x) := (hbw.cell (p := ⟨ba, offa + j, none⟩) hxlt).trans (by simpa using hxc j _ hx 0 _ rfl)
        have gy0 : wr.cell? ⟨bb, offb + j, none⟩ = some (.string y) := (hbw.cell (p := ⟨bb, offb + j, none⟩) hylt).trans (by simpa using hyc j _ hy 0 _ rfl)
        have hse := strq_eq x y
        clear hx hy hxc hyc hdx hdy
        cases hxy : decide (x = y) with
        | true =>
          rw [hxy] at hse
          have HXY := Lib.hid (show stepEq x y = true from hxy)
          have t2 : (x.toList != y.toList) = false := by rw [bne, hse]; rfl
          clear hxy
          go_wp2_with fail
          go_quiet (fail)
          have hbq : Below w.heap.size w (wr.drewN nq) := ⟨hbw.os, hbw.tape, hbw.output, hbw.size, hbw.block⟩
          go_wp2
          go_roundw
          case rel => exact ⟨j + 1, by omega, by go_num, by rw [← HD.out, HXY.out]; simp, hbq⟩
          case measure => simp [intOf]; omega
        | false =>
          rw [hxy] at hse
          have HXY := Lib.hid (show stepEq x y = false from hxy)
          have t2 : (x.toList != y.toList) = true := by rw [bne, hse]; rfl
          clear hxy
          go_wp2_with fail
          go_quiet (fail)
          have hbq : Below w.heap.size w (wr.drewN nq) := ⟨hbw.os, hbw.tape, hbw.output, hbw.size, hbw.block⟩
          go_wp2
          go_ret
          exact ⟨by rw [← HD.out, HXY.out]; first | done | rfl, hbq⟩
      · have t1 : decide ((j : Int) < la.length) = false := by simp; omega
        obtain rfl : j = la.length := by omega
        have HZ := Lib.hid (show true = R by rw [← HS.out, List.drop_length, List.drop_eq_nil_of_le hl2]; rfl)
        go_wp2
        go_ret
        exact ⟨by rw [← HZ.out]; first | done | rfl, hbw⟩
  · have t0 : ((la.length : Int) != (lb.length : Int)) = true := by simp; omega
    have HZ := Lib.hid (show false = R by rw [hR.out, eqL_len _ hl])
    clear hl
    go_enter Tryz.func301, Tryz.ntmps301
    go_wp2_with fail
    go_ret
    exact ⟨by rw [← HZ.out]; first | done | rfl, Below.refl _ _⟩

set_option maxHeartbeats 2000000 in
theorem samePlace_any (a b : Pl5) (w : World) (hA : PlH w a) (hB : PlH w b) : Calls Tryz.prog 257 #[plV a, plV b] w fun e w' => e = .returned (.bool (plEq a b)) ∧ Below w.heap.size w w' := by
  obtain ⟨n1, h1, p1⟩ := a
  obtain ⟨n2, h2, p2⟩ := b
  obtain ⟨R, hR⟩ : ∃ R, R = plEq ⟨n1, h1, p1⟩ ⟨n2, h2, p2⟩ := ⟨_, rfl⟩
  rw [← hR]
  replace hR : R = (decide (n1 = n2) && eqL stepEq p1 p2) := hR
  have hc := Lib.hid (show ∀ W, Below w.heap.size w W → Calls Tryz.prog 301 #[.slice h1.oa p1.length h1.cap, .slice h2.oa p2.length h2.cap] W fun e w' => e = .returned (.bool (eqL stepEq p1 p2)) ∧ Below W.heap.size W w' from fun W hW => eqStep_any h1 h2 p1 p2 W (hA.below hW) (hB.below hW))
  clear hA hB
  have t := strq_eq n1 n2
  simp only [plV, plC]
  cases c : decide (n1 = n2) with
  | true =>
    rw [c] at t hR
    have HR := Lib.hid hR
    clear hR c
    go_enter Tryz.func257, Tryz.ntmps257
    go_wp2_with (go_at_call 301; refine (hc.out _ (((Below.refl _ _).alloc (Nat.le_refl _) _).alloc (by simp) _)).mono ?_; rintro e w1 ⟨rfl, hb1⟩; have B1 : Below w.heap.size w w1 := (((Below.refl _ _).alloc (Nat.le_refl _) _).alloc (by simp) _).trans (hb1.mono (by simp; omega)); clear hb1; replace B1 := Lib.hid B1)
    go_ret
    exact ⟨by rw [HR.out]; first | done | rfl, B1.out⟩
  | false =>
    rw [c] at t hR
    have HR := Lib.hid hR
    clear hR c
    go_enter Tryz.func257, Tryz.ntmps257
    go_wp2_with fail
    go_ret
    exact ⟨by rw [HR.out]; first | done | rfl, (((Below.refl _ _).alloc (Nat.le_refl _) _).alloc (by simp) _)⟩

end Go.Proofs.YtggdpgaedmegbaaGreatDoor
