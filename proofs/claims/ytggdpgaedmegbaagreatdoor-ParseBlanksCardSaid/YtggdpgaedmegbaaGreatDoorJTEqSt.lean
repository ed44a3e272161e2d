/-
  slices.EqualFunc over statements. Conditions: the slices lie in the heap; the function that is handed over keeps its contract.
-/
import Derived.Test.YtggdpgaedmegbaaGreatDoorJPBox
import Derived.Test.YtggdpgaedmegbaaGreatDoorJLNum
namespace Go.Proofs.YtggdpgaedmegbaaGreatDoor
open Go.RowKit

theorem infoSt : (Tryz.prog.info? 108).map (·.size) = some 21 := by kernel_rfl
theorem stC_info (x : St5) : (Tryz.prog.info? 108).map (·.size) = some (stC x).length := by rw [stC_len]; exact infoSt
theorem stC_one (x : St5) : ∀ v ∈ stC x, v.oneCell' = true := by
  obtain ⟨_, _, _, ⟨_, _, _, _⟩, ⟨_, _, _⟩, ⟨_, _, _, ⟨_, _, _⟩, _, _⟩, ⟨_, _, ⟨_, _, _⟩⟩, _, _, _, _, _, _⟩ := x
  intro v hv
  simp only [stC, tyC, plC, rvC, opC, List.cons_append, List.nil_append, List.mem_cons, List.not_mem_nil, or_false] at hv
  rcases hv with rfl | rfl | rfl | rfl | rfl | rfl | rfl | rfl | rfl | rfl | rfl | rfl | rfl | rfl | rfl | rfl | rfl | rfl | rfl | rfl | rfl <;> rfl

set_option maxRecDepth 100000 in
set_option maxHeartbeats 4000000 in
theorem eqSt_any (F : Nat) (hE : ∀ args w, (callFunc F args).run Tryz.prog w = .ok (.enter F args) w) (g : St5 → St5 → Bool) (P : World → St5 → Prop) (hPb : ∀ w w' x, P w x → Below w.heap.size w w' → P w' x)
    (hF : ∀ x y w, P w x → P w y → Calls Tryz.prog F #[stV x, stV y] w fun e w' => e = .returned (.bool (g x y)) ∧ Below w.heap.size w w')
    (ha hb : Hd) (la lb : List St5) (w : World) (hA : Row w ha 21 la stC (P w)) (hB : Row w hb 21 lb stC (P w)) :
    Calls Tryz.prog 192 #[.slice ha.oa la.length ha.cap, .slice hb.oa lb.length hb.cap, .func (.func F) #[] #[]] w fun e w' => e = .returned (.bool (eqL g la lb)) ∧ Below w.heap.size w w' := by
  obtain ⟨oa, capa⟩ := ha
  obtain ⟨ob, capb⟩ := hb
  obtain ⟨ha1, ha2, ha3, ha4⟩ := hA
  obtain ⟨hb1, hb2, hb3, hb4⟩ := hB
  dsimp only at ha1 ha2 ha3 hb1 hb2 hb3 ⊢
  unfold maxLen at ha2 hb2
  replace ha3 := Lib.hid ha3
  replace ha4 := Lib.hid ha4
  replace hb3 := Lib.hid hb3
  replace hb4 := Lib.hid hb4
  replace hF := Lib.hid hF
  replace hPb := Lib.hid hPb
  obtain ⟨R, hR⟩ : ∃ R, R = eqL g la lb := ⟨_, rfl⟩
  rw [← hR]
  replace hR := Lib.hid hR
  by_cases hl : la.length = lb.length
  · have t0 : ((la.length : Int) != (lb.length : Int)) = false := by simp; omega
    have hll := Lib.hid hl
    have hl1 : la.length ≤ lb.length := by omega
    have hl2 : lb.length ≤ la.length := by omega
    clear hl
    go_enter Tryz.func192, Tryz.ntmps192
    go_wp2_with fail
    go_loopw [17] (fun u wr => ∃ j : Nat, j ≤ la.length ∧ u = .int .i64 j ∧ eqL g (la.drop j) (lb.drop j) = R ∧ Below w.heap.size w wr) (fun u _ => la.length - (intOf u).toNat)
    case atStart => exact ⟨0, by omega, rfl, by simpa using hR.out.symm, Below.refl _ _⟩
    case round =>
      obtain ⟨j, hj, rfl, hs, hbw⟩ := hrel
      have HS := Lib.hid hs
      clear hs
      by_cases hjl : j < la.length
      · have t1 : decide ((j : Int) < la.length) = true := by simp; omega
        obtain ⟨ba, offa, rfl, hxlt, hxc⟩ := ha3.out (by omega)
        obtain ⟨bb, offb, rfl, hylt, hyc⟩ := hb3.out (by omega)
        obtain ⟨x, hx⟩ : ∃ x, la[j]? = some x := ⟨_, List.getElem?_eq_getElem hjl⟩
        obtain ⟨y, hy⟩ : ∃ y, lb[j]? = some y := ⟨_, List.getElem?_eq_getElem (show j < lb.length by omega)⟩
        have hdx : la.drop j = x :: la.drop (j + 1) := by rw [List.drop_eq_getElem_cons hjl]; rw [List.getElem?_eq_getElem hjl] at hx; rw [Option.some.inj hx]
        have hdy : lb.drop j = y :: lb.drop (j + 1) := by
          have hjb : j < lb.length := by omega
          rw [List.drop_eq_getElem_cons hjb]; rw [List.getElem?_eq_getElem hjb] at hy; rw [Option.some.inj hy]
        have HD := Lib.hid (show (g x y && eqL g (la.drop (j + 1)) (lb.drop (j + 1))) = R by rw [← HS.out, hdx, hdy, eqL])
        have hpx := hPb.out _ _ _ (ha4.out x (List.mem_of_getElem? hx)) hbw
        have hpy := hPb.out _ _ _ (hb4.out y (List.mem_of_getElem? hy)) hbw
        have hcall : ∀ W, Below wr.heap.size wr W → Calls Tryz.prog F #[stV x, stV y] W fun e w' => e = .returned (.bool (g x y)) ∧ Below W.heap.size W w' := fun W hW => hF.out x y W (hPb.out _ _ _ hpx hW) (hPb.out _ _ _ hpy hW)
        clear hpx hpy hdx hdy
        obtain ⟨bv, hbv⟩ : ∃ b, b = g x y := ⟨_, rfl⟩
        rw [← hbv] at hcall HD
        clear hbv
        replace hcall := Lib.hid hcall
        have gx : wr.rangeAt ba (offa + j * 21) (stC x) := fun i v hv => (hbw.cell (p := ⟨ba, offa + j * 21 + i, none⟩) hxlt).trans (hxc j x hx i v hv)
        have gy : ∀ W, Below wr.heap.size wr W → W.rangeAt bb (offb + j * 21) (stC y) := fun W hW => rangeAt_below (fun i v hv => (hbw.cell (p := ⟨bb, offb + j * 21 + i, none⟩) hylt).trans (hyc j y hy i v hv)) hW
        replace gx := Lib.hid gx
        replace gy := Lib.hid gy
        clear hx hy hxc hyc
        have hsz := hbw.size
        cases bv with
        | true =>
          go_wp2_with (first
            | (refine wpList_load_mid rfl 108 (.tmp 20) rfl ba (offa + j * 21) rfl (stC x) _ gx.out Tryz.underlying108 rfl (stC_info x) ?_)
            | (refine wpList_store_new rfl 108 (.tmp 8) (.tmp 21) rfl wr _ _ rfl (stC x) rfl (by rw [stC_len]; exact Nat.le_refl _) (stC_info x) (stC_one x) ?_; intro W1 hW1 hr1 hs1; replace hr1 := Lib.hid hr1; have HW1 := Lib.hid hW1; clear hW1; have hsz1 : wr.heap.size < W1.heap.size := (by omega); replace hs1 := Lib.hid hs1)
            | (refine wpList_load_mid rfl 108 (.tmp 24) rfl bb (offb + j * 21) rfl (stC y) _ (gy.out _ HW1.out) Tryz.underlying108 rfl (stC_info y) ?_)
            | (refine wpList_store_new rfl 108 (.tmp 9) (.tmp 25) rfl W1 _ _ rfl (stC y) rfl (by rw [stC_len]; exact Nat.le_refl _) (stC_info y) (stC_one y) ?_; intro W2 hW2 hr2 hs2; have hr3 := Lib.hid (rangeAt_below hr1.out hW2); replace hr2 := Lib.hid hr2; have HW2 := Lib.hid (HW1.out.trans (hW2.mono HW1.out.size)); clear hW2 hs2)
            | (refine wpList_load_mid rfl 108 (.tmp 8) rfl wr.heap.size 0 rfl (stC x) _ hr3.out Tryz.underlying108 rfl (stC_info x) ?_)
            | (refine wpList_load_mid rfl 108 (.tmp 9) rfl W1.heap.size 0 rfl (stC y) _ hr2.out Tryz.underlying108 rfl (stC_info y) ?_)
            | (go_at_fn F; refine (hcall.out _ HW2.out).mono ?_; rintro e w1 ⟨rfl, hb1⟩; have B1 : Below wr.heap.size wr w1 := HW2.out.trans (hb1.mono HW2.out.size); clear hb1; replace B1 := Lib.hid B1))
          go_roundw
          case rel => exact ⟨j + 1, by omega, by go_num, by simpa using HD.out, hbw.trans (B1.out.mono hbw.size)⟩
          case measure => simp [intOf]; omega
        | false =>
          go_wp2_with (first
            | (refine wpList_load_mid rfl 108 (.tmp 20) rfl ba (offa + j * 21) rfl (stC x) _ gx.out Tryz.underlying108 rfl (stC_info x) ?_)
            | (refine wpList_store_new rfl 108 (.tmp 8) (.tmp 21) rfl wr _ _ rfl (stC x) rfl (by rw [stC_len]; exact Nat.le_refl _) (stC_info x) (stC_one x) ?_; intro W1 hW1 hr1 hs1; replace hr1 := Lib.hid hr1; have HW1 := Lib.hid hW1; clear hW1; have hsz1 : wr.heap.size < W1.heap.size := (by omega); replace hs1 := Lib.hid hs1)
            | (refine wpList_load_mid rfl 108 (.tmp 24) rfl bb (offb + j * 21) rfl (stC y) _ (gy.out _ HW1.out) Tryz.underlying108 rfl (stC_info y) ?_)
            | (refine wpList_store_new rfl 108 (.tmp 9) (.tmp 25) rfl W1 _ _ rfl (stC y) rfl (by rw [stC_len]; exact Nat.le_refl _) (stC_info y) (stC_one y) ?_; intro W2 hW2 hr2 hs2; have hr3 := Lib.hid (rangeAt_below hr1.out hW2); replace hr2 := Lib.hid hr2; have HW2 := Lib.hid (HW1.out.trans (hW2.mono HW1.out.size)); clear hW2 hs2)
            | (refine wpList_load_mid rfl 108 (.tmp 8) rfl wr.heap.size 0 rfl (stC x) _ hr3.out Tryz.underlying108 rfl (stC_info x) ?_)
            | (refine wpList_load_mid rfl 108 (.tmp 9) rfl W1.heap.size 0 rfl (stC y) _ hr2.out Tryz.underlying108 rfl (stC_info y) ?_)
            | (go_at_fn F; refine (hcall.out _ HW2.out).mono ?_; rintro e w1 ⟨rfl, hb1⟩; have B1 : Below wr.heap.size wr w1 := HW2.out.trans (hb1.mono HW2.out.size); clear hb1; replace B1 := Lib.hid B1))
          go_ret
          exact ⟨by rw [← HD.out]; first | done | rfl, hbw.trans (B1.out.mono hbw.size)⟩
      · have t1 : decide ((j : Int) < la.length) = false := by simp; omega
        obtain rfl : j = la.length := by omega
        have HZ := Lib.hid (show true = R by rw [← HS.out, List.drop_length, List.drop_eq_nil_of_le hl2]; rfl)
        go_wp2
        go_ret
        exact ⟨by rw [← HZ.out]; first | done | rfl, hbw⟩
  · have t0 : ((la.length : Int) != (lb.length : Int)) = true := by simp; omega
    have HZ := Lib.hid (show false = R by rw [hR.out, eqL_len g hl])
    clear hl
    go_enter Tryz.func192, Tryz.ntmps192
    go_wp2_with fail
    go_ret
    exact ⟨by rw [← HZ.out]; first | done | rfl, Below.refl _ _⟩

end Go.Proofs.YtggdpgaedmegbaaGreatDoor
