/-
  SamePlace, SameTy, SameOper of the reference's text. Conditions: what is compared lies in the heap.
-/
import Derived.Test.YtgogdcpgfmndnaaGreatDoorTLarge
import Derived.Test.YtgogdcpgfmndnaaGreatDoorTSameA
namespace Go.Proofs.YtgogdcpgfmndnaaGreatDoor
open Go.RowKit

theorem cells2 {w : World} {k : Nat} {v0 v1 : Value} {t : TypeId} (h : w.heap[k]? = some (.cells #[v0, v1] t)) :
    w.cell? ⟨k, 0, none⟩ = some v0 ∧ w.cell? ⟨k, 1, none⟩ = some v1 ∧ (∀ j, w.frozen? ⟨k, j, none⟩ = false) ∧ k < w.heap.size := by
  have hl := (Array.getElem?_eq_some_iff.1 h).1
  exact ⟨by simp [World.cell?, h], by simp [World.cell?, h], fun j => by simp [World.frozen?, h], hl⟩
theorem drop_two {α : Type} {la lb : List α} {j : Nat} (g : α → α → Bool) (ha : j < la.length) (hb : j < lb.length) : ∃ x y, la[j]? = some x ∧ lb[j]? = some y ∧ eqL g (la.drop j) (lb.drop j) = (g x y && eqL g (la.drop (j + 1)) (lb.drop (j + 1))) := by
  refine ⟨la[j], lb[j], List.getElem?_eq_getElem ha, List.getElem?_eq_getElem hb, ?_⟩
  rw [List.drop_eq_getElem_cons ha, List.drop_eq_getElem_cons hb, eqL]
theorem eqL_end {α : Type} {la lb : List α} (g : α → α → Bool) (h : la.length = lb.length) : eqL g (la.drop la.length) (lb.drop la.length) = true := by
  rw [List.drop_length, h, List.drop_length, eqL]
/-- Two boxes, one behind the other. -/
theorem box_two (w : World) (A B : Array Value) (s t : TypeId) : Below w.heap.size w ((w.alloc (.cells A s)).alloc (.cells B t)) ∧ ((w.alloc (.cells A s)).alloc (.cells B t)).heap[w.heap.size]? = some (.cells A s) ∧ ((w.alloc (.cells A s)).alloc (.cells B t)).heap[w.heap.size + 1]? = some (.cells B t) := by
  refine ⟨((Below.refl _ _).alloc (Nat.le_refl _) _).alloc (by simp) _, ?_, ?_⟩
  · rw [heap_alloc_old _ _ (by simp), heap_alloc_new]
  · have := heap_alloc_new (w.alloc (.cells A s)) (.cells B t)
    simpa using this

set_option maxRecDepth 100000 in
set_option maxHeartbeats 4000000 in
theorem rSamePlace_any (a b : Pl5) (w : World) (hA : PlH w a) (hB : PlH w b) : Calls Tryz.prog 86 #[plV a, plV b] w fun e w' => e = .returned (.bool (plEq a b)) ∧ Below w.heap.size w w' := by
  obtain ⟨n1, ⟨oa, capa⟩, la⟩ := a
  obtain ⟨n2, ⟨ob, capb⟩, lb⟩ := b
  obtain ⟨ha1, ha2, ha3, -⟩ := hA
  obtain ⟨hb1, hb2, hb3, -⟩ := hB
  dsimp only at ha1 ha2 ha3 hb1 hb2 hb3
  unfold maxLen at ha2 hb2
  replace ha3 := Lib.hid ha3
  replace hb3 := Lib.hid hb3
  obtain ⟨R, hR⟩ : ∃ R, R = plEq ⟨n1, ⟨oa, capa⟩, la⟩ ⟨n2, ⟨ob, capb⟩, lb⟩ := ⟨_, rfl⟩
  rw [← hR]
  replace hR : R = (decide (n1 = n2) && eqL stepEq la lb) := hR
  simp only [plV, plC]
  obtain ⟨W0, hW0⟩ : ∃ W, W = (w.alloc (.cells #[.string n1, .slice oa la.length capa] 39)).alloc (.cells #[.string n2, .slice ob lb.length capb] 39) := ⟨_, rfl⟩
  have hbx := box_two w #[.string n1, .slice oa la.length capa] #[.string n2, .slice ob lb.length capb] 39 39
  rw [← hW0] at hbx
  obtain ⟨hb0, hx0, hx1⟩ := hbx
  have HB0 := Lib.hid hb0
  have HX0 := Lib.hid hx0
  have HX1 := Lib.hid hx1
  clear hb0 hx0 hx1
  have hs := str_eq n1 n2
  cases c : decide (n1 = n2) with
  | false =>
    rw [c] at hs
    have HR := Lib.hid (show R = false by rw [hR, c]; rfl)
    clear hR c
    go_enter Tryz.func86, Tryz.ntmps86
    go_wp2_with fail
    rw [← hW0]
    go_ret
    exact ⟨by rw [HR.out]; first | done | rfl, HB0.out⟩
  | true =>
    rw [c, Bool.true_and] at hR
    rw [c] at hs
    clear c
    by_cases hl : la.length = lb.length
    · have t0 : ((la.length : Int) != (lb.length : Int)) = false := by simp; omega
      have HR := Lib.hid hR
      have HL := Lib.hid hl
      have hl1 : la.length ≤ lb.length := by omega
      clear hl hR
      go_enter Tryz.func86, Tryz.ntmps86
      go_wp2_with fail
      rw [← hW0]
      clear hW0
      go_loopw [5] (fun u wr => ∃ j : Nat, j ≤ la.length ∧ u = .int .i64 j ∧ eqL stepEq (la.drop j) (lb.drop j) = R ∧ Below w.heap.size w wr ∧ wr.heap[w.heap.size]? = some (.cells #[.string n1, .slice oa la.length capa] 39) ∧ wr.heap[w.heap.size + 1]? = some (.cells #[.string n2, .slice ob lb.length capb] 39)) (fun u _ => la.length - (intOf u).toNat)
      case atStart => exact ⟨0, by omega, rfl, by simpa using HR.out.symm, HB0.out, HX0.out, HX1.out⟩
      case round =>
        clear HB0 HX0 HX1 HR
        obtain ⟨j, hj, rfl, hs, hbw, hx0, hx1⟩ := hrel
        obtain ⟨x0, x1, -, -⟩ := cells2 hx0
        obtain ⟨y0, y1, -, -⟩ := cells2 hx1
        have HS := Lib.hid hs
        have HX0 := Lib.hid hx0
        have HX1 := Lib.hid hx1
        clear hs hx0 hx1
        by_cases hjl : j < la.length
        · have t1 : decide ((j : Int) < la.length) = true := by simp; omega
          obtain ⟨ba, offa, rfl, hxlt, hxc⟩ := ha3.out (by omega)
          obtain ⟨bb, offb, rfl, hylt, hyc⟩ := hb3.out (by omega)
          obtain ⟨x, y, hx, hy, hd⟩ := drop_two stepEq hjl (show j < lb.length by omega)
          have HD := Lib.hid (hd.symm.trans HS.out)
          have gx0 : wr.cell? ⟨ba, offa + j, none⟩ = some (.string x) := (hbw.cell (p := ⟨ba, offa + j, none⟩) hxlt).trans (by simpa using hxc j _ hx 0 _ rfl)
          have gy0 : wr.cell? ⟨bb, offb + j, none⟩ = some (.string y) := (hbw.cell (p := ⟨bb, offb + j, none⟩) hylt).trans (by simpa using hyc j _ hy 0 _ rfl)
          have hse := str_eq x y
          clear hx hy hxc hyc hd HS
          cases hxy : decide (x = y) with
          | true =>
            rw [hxy] at hse
            have HXY := Lib.hid (show stepEq x y = true from hxy)
            have t2 : (x.toList != y.toList) = false := by rw [bne, hse]; rfl
            clear hxy
            go_wp2_with fail
            go_quiet (fail)
            have hbq : Below w.heap.size w (wr.drewN nq) := ⟨hbw.os, hbw.tape, hbw.output, hbw.size, hbw.block⟩
            go_wp2
            go_roundw
            case rel => exact ⟨j + 1, by omega, by go_num, by rw [← HD.out, HXY.out]; simp, hbq, HX0.out, HX1.out⟩
            case measure => simp [intOf]; omega
          | false =>
            rw [hxy] at hse
            have HXY := Lib.hid (show stepEq x y = false from hxy)
            have t2 : (x.toList != y.toList) = true := by rw [bne, hse]; rfl
            clear hxy
            go_wp2_with fail
            go_quiet (fail)
            have hbq : Below w.heap.size w (wr.drewN nq) := ⟨hbw.os, hbw.tape, hbw.output, hbw.size, hbw.block⟩
            go_wp2
            go_ret
            exact ⟨by rw [← HD.out, HXY.out]; first | done | rfl, hbq⟩
        · have t1 : decide ((j : Int) < la.length) = false := by simp; omega
          obtain rfl : j = la.length := by omega
          have HZ := Lib.hid (show true = R by rw [← HS.out, eqL_end _ HL.out])
          go_wp2
          go_ret
          exact ⟨by rw [← HZ.out]; first | done | rfl, hbw⟩
    · have t0 : ((la.length : Int) != (lb.length : Int)) = true := by simp; omega
      have HR := Lib.hid (show R = false by rw [hR, eqL_len _ hl])
      clear hl hR
      go_enter Tryz.func86, Tryz.ntmps86
      go_wp2_with fail
      rw [← hW0]
      go_ret
      exact ⟨by rw [HR.out]; first | done | rfl, HB0.out⟩
end Go.Proofs.YtgogdcpgfmndnaaGreatDoor
