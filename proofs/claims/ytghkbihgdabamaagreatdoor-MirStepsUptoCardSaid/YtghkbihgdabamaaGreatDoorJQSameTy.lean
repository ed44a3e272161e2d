/-
  The document's SameTy. Conditions: both types lie in the heap.
-/
import Derived.Test.YtghkbihgdabamaaGreatDoorJQLarge
import Derived.Test.YtghkbihgdabamaaGreatDoorJQIsOf
import Derived.Deep.RegionHeld3
import Derived.Deep.DeepCutAuto
namespace Go.Proofs.YtghkbihgdabamaaGreatDoor
open Go.RowKit

theorem box_twoL (w : World) (A B : Array Value) (s t : TypeId) : Below w.heap.size w ((w.alloc (.cells A s)).alloc (.cells B t)) ∧ ((w.alloc (.cells A s)).alloc (.cells B t)).heap[w.heap.size]? = some (.cells A s) ∧ ((w.alloc (.cells A s)).alloc (.cells B t)).heap[w.heap.size + 1]? = some (.cells B t) := by
  refine ⟨((Below.refl _ _).alloc (Nat.le_refl _) _).alloc (by simp) _, ?_, ?_⟩
  · rw [heap_alloc_old _ _ (by simp), heap_alloc_new]
  · have := heap_alloc_new (w.alloc (.cells A s)) (.cells B t)
    simpa using this
theorem drop_two {α : Type} {la lb : List α} {j : Nat} (g : α → α → Bool) (ha : j < la.length) (hb : j < lb.length) : ∃ x y, la[j]? = some x ∧ lb[j]? = some y ∧ eqL g (la.drop j) (lb.drop j) = (g x y && eqL g (la.drop (j + 1)) (lb.drop (j + 1))) := by
  refine ⟨la[j], lb[j], List.getElem?_eq_getElem ha, List.getElem?_eq_getElem hb, ?_⟩
  rw [List.drop_eq_getElem_cons ha, List.drop_eq_getElem_cons hb, eqL]
theorem eqL_end {α : Type} {la lb : List α} (g : α → α → Bool) (h : la.length = lb.length) : eqL g (la.drop la.length) (lb.drop la.length) = true := by
  rw [List.drop_length, h, List.drop_length, eqL]


set_option maxRecDepth 100000 in
set_option maxHeartbeats 8000000 in
theorem rSameTy_step (n : Nat) (ih : ∀ (a b : Ty5) (w : World), TyH n w a → TyH n w b → Calls Tryz.prog 13 #[tyV a, tyV b] w fun e w' => e = .returned (.bool (tyEq a b)) ∧ Below w.heap.size w w') (a b : Ty5) (w : World) (hA : TyH (n + 1) w a) (hB : TyH (n + 1) w b) :
    Calls Tryz.prog 13 #[tyV a, tyV b] w fun e w' => e = .returned (.bool (tyEq a b)) ∧ Below w.heap.size w w' := by
  obtain ⟨k1, n1, ⟨oa, capa⟩, la⟩ := a
  obtain ⟨k2, n2, ⟨ob, capb⟩, lb⟩ := b
  obtain ⟨-, ha1, ha2, ha3, ha4⟩ := hA
  obtain ⟨-, hb1, hb2, hb3, hb4⟩ := hB
  dsimp only at ha1 ha2 ha3 hb1 hb2 hb3
  unfold maxLen at ha2 hb2
  replace ha3 := Lib.hid ha3
  replace hb3 := Lib.hid hb3
  replace ha4 := Lib.hid ha4
  replace hb4 := Lib.hid hb4
  replace ih := Lib.hid ih
  obtain ⟨R, hR⟩ : ∃ R, R = tyEq (.mk k1 n1 ⟨oa, capa⟩ la) (.mk k2 n2 ⟨ob, capb⟩ lb) := ⟨_, rfl⟩
  rw [← hR]
  rw [tyEq, tysEq_eq] at hR
  simp only [tyV, tyC] at ih ⊢
  obtain ⟨W0, hW0⟩ : ∃ W, W = (w.alloc (.cells #[.int .i64 k1, .string n1, .slice oa la.length capa] 46)).alloc (.cells #[.int .i64 k2, .string n2, .slice ob lb.length capb] 46) := ⟨_, rfl⟩
  have hbx := box_twoL w #[.int .i64 k1, .string n1, .slice oa la.length capa] #[.int .i64 k2, .string n2, .slice ob lb.length capb] 46 46
  rw [← hW0] at hbx
  obtain ⟨hb0, hx0, hx1⟩ := hbx
  have HB0 := Lib.hid hb0
  have HX0 := Lib.hid hx0
  have HX1 := Lib.hid hx1
  clear hb0 hx0 hx1
  have hk : (k1 != k2) = !decide (k1 = k2) := by rw [Bool.eq_iff_iff]; simp
  have hs := strq_eq n1 n2
  cases ck : decide (k1 = k2) with
  | false =>
    rw [ck, Bool.not_false] at hk
    have HR := Lib.hid (show R = false by rw [hR, ck]; simp)
    clear hR ck hs
    go_enter Tryz.func13, Tryz.ntmps13
    go_wp2_with fail
    rw [← hW0]
    go_ret
    exact ⟨by rw [HR.out]; first | done | rfl, HB0.out⟩
  | true =>
  rw [ck, Bool.true_and] at hR
  rw [ck, Bool.not_true] at hk
  clear ck
  cases c : decide (n1 = n2) with
  | false =>
    rw [c] at hs
    have HR := Lib.hid (show R = false by rw [hR, c]; rfl)
    clear hR c
    go_enter Tryz.func13, Tryz.ntmps13
    go_wp2_with fail
    rw [← hW0]
    go_ret
    exact ⟨by rw [HR.out]; first | done | rfl, HB0.out⟩
  | true =>
    rw [c, Bool.true_and] at hR
    rw [c] at hs
    clear c
    by_cases hl : la.length = lb.length
    · have t0 : ((la.length : Int) != (lb.length : Int)) = false := by simp; omega
      have HR := Lib.hid hR
      have HL := Lib.hid hl
      have hl1 : la.length ≤ lb.length := by omega
      clear hl hR
      go_enter Tryz.func13, Tryz.ntmps13
      go_wp2_with fail
      rw [← hW0]
      clear hW0 hk hs
      go_loopw [5] (fun u wr => ∃ j : Nat, j ≤ la.length ∧ u = .int .i64 j ∧ eqL tyEq (la.drop j) (lb.drop j) = R ∧ Below w.heap.size w wr ∧ wr.heap[w.heap.size]? = some (.cells #[.int .i64 k1, .string n1, .slice oa la.length capa] 46) ∧ wr.heap[w.heap.size + 1]? = some (.cells #[.int .i64 k2, .string n2, .slice ob lb.length capb] 46)) (fun u _ => la.length - (intOf u).toNat)
      case atStart => exact ⟨0, by omega, rfl, by simpa using HR.out.symm, HB0.out, HX0.out, HX1.out⟩
      case round =>
        clear HB0 HX0 HX1 HR
        obtain ⟨j, hj, rfl, hs, hbw, hx0, hx1⟩ := hrel
        obtain ⟨wo, rfl⟩ : ∃ wo : World, wo = wr := ⟨_, rfl⟩
        obtain ⟨x0, x1, x2, -, hlt0⟩ := cells3L hx0
        obtain ⟨y0, y1, y2, -, hlt1⟩ := cells3L hx1
        have HS := Lib.hid hs
        have HX0 := Lib.hid hx0
        have HX1 := Lib.hid hx1
        clear hs hx0 hx1 x0 x1 y0 y1
        by_cases hjl : j < la.length
        · have t1 : decide ((j : Int) < la.length) = true := by simp; omega
          obtain ⟨ba, offa, rfl, hxlt, hxc⟩ := ha3.out (by omega)
          obtain ⟨bb, offb, rfl, hylt, hyc⟩ := hb3.out (by omega)
          have hjb : j < lb.length := by omega
          obtain ⟨x, y, hx, hy, hd⟩ := drop_two tyEq hjl hjb
          have HD := Lib.hid (hd.symm.trans HS.out)
          have hc := fun W (hW : Below wo.heap.size wo W) => ih.out x y W (TyH.below n (TyH.below n (ha4.out x (List.mem_of_getElem? hx)) hbw) hW) (TyH.below n (TyH.below n (hb4.out y (List.mem_of_getElem? hy)) hbw) hW)
          obtain ⟨bv, hbv⟩ : ∃ b, b = tyEq x y := ⟨_, rfl⟩
          rw [← hbv] at hc HD
          clear hbv
          obtain ⟨kx, nx, hx', lx⟩ := x
          obtain ⟨ky, ny, hy', ly⟩ := y
          dsimp only at hc
          have hc := Lib.hid hc
          have gx0 : wo.cell? ⟨ba, offa + j * 3, none⟩ = some (.int .i64 kx) := (hbw.cell (p := ⟨ba, offa + j * 3, none⟩) hxlt).trans (by simpa using hxc j _ hx 0 _ rfl)
          have gx1 : wo.cell? ⟨ba, offa + j * 3 + 1, none⟩ = some (.string nx) := (hbw.cell (p := ⟨ba, offa + j * 3 + 1, none⟩) hxlt).trans (by simpa using hxc j _ hx 1 _ rfl)
          have gx2 : wo.cell? ⟨ba, offa + j * 3 + 2, none⟩ = some (.slice hx'.oa lx.length hx'.cap) := (hbw.cell (p := ⟨ba, offa + j * 3 + 2, none⟩) hxlt).trans (by simpa using hxc j _ hx 2 _ rfl)
          have gy0 : wo.cell? ⟨bb, offb + j * 3, none⟩ = some (.int .i64 ky) := (hbw.cell (p := ⟨bb, offb + j * 3, none⟩) hylt).trans (by simpa using hyc j _ hy 0 _ rfl)
          have gy1 : wo.cell? ⟨bb, offb + j * 3 + 1, none⟩ = some (.string ny) := (hbw.cell (p := ⟨bb, offb + j * 3 + 1, none⟩) hylt).trans (by simpa using hyc j _ hy 1 _ rfl)
          have gy2 : wo.cell? ⟨bb, offb + j * 3 + 2, none⟩ = some (.slice hy'.oa ly.length hy'.cap) := (hbw.cell (p := ⟨bb, offb + j * 3 + 2, none⟩) hylt).trans (by simpa using hyc j _ hy 2 _ rfl)
          have HBW := Lib.hid hbw
          have HQ := Lib.hid (show ∀ w', Below wo.heap.size wo w' → w'.cell? ⟨w.heap.size, 2, none⟩ = some (.slice (some ⟨ba, offa, none⟩) la.length capa) ∧ w'.cell? ⟨w.heap.size + 1, 2, none⟩ = some (.slice (some ⟨bb, offb, none⟩) lb.length capb) ∧ w'.cell? ⟨ba, offa + j * 3, none⟩ = some (.int .i64 kx) ∧ w'.cell? ⟨ba, offa + j * 3 + 1, none⟩ = some (.string nx) ∧ w'.cell? ⟨ba, offa + j * 3 + 2, none⟩ = some (.slice hx'.oa lx.length hx'.cap) ∧ w'.cell? ⟨bb, offb + j * 3, none⟩ = some (.int .i64 ky) ∧ w'.cell? ⟨bb, offb + j * 3 + 1, none⟩ = some (.string ny) ∧ w'.cell? ⟨bb, offb + j * 3 + 2, none⟩ = some (.slice hy'.oa ly.length hy'.cap) from fun w' h => ⟨(h.cell (p := ⟨w.heap.size, 2, none⟩) hlt0).trans x2, (h.cell (p := ⟨w.heap.size + 1, 2, none⟩) hlt1).trans y2, (h.cell (p := ⟨ba, offa + j * 3, none⟩) (Nat.lt_of_lt_of_le hxlt hbw.size)).trans gx0, (h.cell (p := ⟨ba, offa + j * 3 + 1, none⟩) (Nat.lt_of_lt_of_le hxlt hbw.size)).trans gx1, (h.cell (p := ⟨ba, offa + j * 3 + 2, none⟩) (Nat.lt_of_lt_of_le hxlt hbw.size)).trans gx2, (h.cell (p := ⟨bb, offb + j * 3, none⟩) (Nat.lt_of_lt_of_le hylt hbw.size)).trans gy0, (h.cell (p := ⟨bb, offb + j * 3 + 1, none⟩) (Nat.lt_of_lt_of_le hylt hbw.size)).trans gy1, (h.cell (p := ⟨bb, offb + j * 3 + 2, none⟩) (Nat.lt_of_lt_of_le hylt hbw.size)).trans gy2⟩)
          clear hx hy hxc hyc hd HS hbw hxlt hylt
          cases bv with
          | true =>
            go_wp2_with fail
            go_region_held3 (fun w' => w'.cell? ⟨w.heap.size, 2, none⟩ = some (.slice (some ⟨ba, offa, none⟩) la.length capa) ∧ w'.cell? ⟨w.heap.size + 1, 2, none⟩ = some (.slice (some ⟨bb, offb, none⟩) lb.length capb) ∧ w'.cell? ⟨ba, offa + j * 3, none⟩ = some (.int .i64 kx) ∧ w'.cell? ⟨ba, offa + j * 3 + 1, none⟩ = some (.string nx) ∧ w'.cell? ⟨ba, offa + j * 3 + 2, none⟩ = some (.slice hx'.oa lx.length hx'.cap) ∧ w'.cell? ⟨bb, offb + j * 3, none⟩ = some (.int .i64 ky) ∧ w'.cell? ⟨bb, offb + j * 3 + 1, none⟩ = some (.string ny) ∧ w'.cell? ⟨bb, offb + j * 3 + 2, none⟩ = some (.slice hy'.oa ly.length hy'.cap)) (first | (refine ⟨?_, ?_, ?_, ?_, ?_, ?_, ?_, ?_⟩ <;> assumption) | go_keep)
              (first | (go_at_call 13; refine (hc.out wo.drew (by exact (Below.refl _ _).drew)).mono ?_; rintro e w1 ⟨rfl, hb1'⟩; have hb1 := undrew2L hb1'; obtain ⟨u0, u1, u2, u3, u4, u5, u6, u7⟩ := HQ.out w1 hb1; have HX2 := Lib.hid ((hb1.block _ hlt0).trans HX0.out); have HX3 := Lib.hid ((hb1.block _ hlt1).trans HX1.out); have HB1 := Lib.hid (HBW.out.trans (hb1.mono HBW.out.size)); clear hb1' hb1))
            clear u0 u1 u2 u3 u4 u5 u6 u7
            go_wp2
            go_roundw
            case rel => exact ⟨j + 1, by omega, by go_num, by rw [← HD.out]; simp, HB1.out, HX2.out, HX3.out⟩
            case measure => simp [intOf]; omega
          | false =>
            go_wp2_with fail
            go_region_held3 (fun w' => w'.cell? ⟨w.heap.size, 2, none⟩ = some (.slice (some ⟨ba, offa, none⟩) la.length capa) ∧ w'.cell? ⟨w.heap.size + 1, 2, none⟩ = some (.slice (some ⟨bb, offb, none⟩) lb.length capb) ∧ w'.cell? ⟨ba, offa + j * 3, none⟩ = some (.int .i64 kx) ∧ w'.cell? ⟨ba, offa + j * 3 + 1, none⟩ = some (.string nx) ∧ w'.cell? ⟨ba, offa + j * 3 + 2, none⟩ = some (.slice hx'.oa lx.length hx'.cap) ∧ w'.cell? ⟨bb, offb + j * 3, none⟩ = some (.int .i64 ky) ∧ w'.cell? ⟨bb, offb + j * 3 + 1, none⟩ = some (.string ny) ∧ w'.cell? ⟨bb, offb + j * 3 + 2, none⟩ = some (.slice hy'.oa ly.length hy'.cap)) (first | (refine ⟨?_, ?_, ?_, ?_, ?_, ?_, ?_, ?_⟩ <;> assumption) | go_keep)
              (first | (go_at_call 13; refine (hc.out wo.drew (by exact (Below.refl _ _).drew)).mono ?_; rintro e w1 ⟨rfl, hb1'⟩; have hb1 := undrew2L hb1'; obtain ⟨u0, u1, u2, u3, u4, u5, u6, u7⟩ := HQ.out w1 hb1; have HX2 := Lib.hid ((hb1.block _ hlt0).trans HX0.out); have HX3 := Lib.hid ((hb1.block _ hlt1).trans HX1.out); have HB1 := Lib.hid (HBW.out.trans (hb1.mono HBW.out.size)); clear hb1' hb1))
            clear u0 u1 u2 u3 u4 u5 u6 u7
            go_wp2
            go_ret
            exact ⟨by rw [← HD.out]; first | done | rfl, HB1.out⟩
        · have t1 : decide ((j : Int) < la.length) = false := by simp; omega
          obtain rfl : j = la.length := by omega
          have HZ := Lib.hid (show true = R by rw [← HS.out, eqL_end _ HL.out])
          go_wp2
          go_ret
          exact ⟨by rw [← HZ.out]; first | done | rfl, hbw⟩
    · have t0 : ((la.length : Int) != (lb.length : Int)) = true := by simp; omega
      have HR := Lib.hid (show R = false by rw [hR, eqL_len _ hl])
      clear hl hR
      go_enter Tryz.func13, Tryz.ntmps13
      go_wp2_with fail
      rw [← hW0]
      go_ret
      exact ⟨by rw [HR.out]; first | done | rfl, HB0.out⟩
theorem rSameTy_any : ∀ (n : Nat) (a b : Ty5) (w : World), TyH n w a → TyH n w b → Calls Tryz.prog 13 #[tyV a, tyV b] w fun e w' => e = .returned (.bool (tyEq a b)) ∧ Below w.heap.size w w'
  | 0, _, _, _, h, _ => h.elim
  | n + 1, a, b, w, h, h' => rSameTy_step n (rSameTy_any n) a b w h h'

end Go.Proofs.YtghkbihgdabamaaGreatDoor
