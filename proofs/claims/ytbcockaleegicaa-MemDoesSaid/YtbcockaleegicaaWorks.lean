/-
  The walk of works, the document's examples. No conditions.
-/
import Derived.Test.YtbcockaleegicaaCalls
namespace Go.Proofs.Ytbcockaleegicaa
open Go.RowKit

set_option maxHeartbeats 1000000 in
theorem works_any (w : World) : Calls Try.prog 11 #[] w fun e w' => e = .returned (.bool true) ∧ Below w.heap.size w w' := by
  go_enter Try.func11, Try.ntmps11
  go_wp2_with fail
  refine (new_any 9 9 _ rfl).mono ?_
  rintro e w1 ⟨rfl, R1, hb1, hz1⟩
  have T1 := St.made (Below.refl _ _) (Nat.le_refl _) R1 hb1 rfl
  clear hb1
  obtain ⟨mb, hmb⟩ : ∃ mb, mb = w.heap.size := ⟨_, rfl⟩
  rw [← hmb] at R1 T1
  simp only [← hmb]
  have HMB := Lib.hid hmb
  clear hmb
  go_wp2_with fail
  refine (alloc_any R1 2 1 (by decide) (by decide) (by decide) rfl).mono ?_
  rintro e w2 ⟨rfl, ht⟩
  obtain ⟨lm2, loc2, T2, -, -⟩ := T1.turned ht
  have fp := T2.rep.free
  clear ht
  go_wp2_with fail
  have vp := Var.mk w2 true 1 0
  refine (load_any (T2.alloc _).rep true 1 0 ⟨false, 0, 0⟩ 14 rfl).mono ?_
  rintro e w3 ⟨rfl, hb3⟩
  replace vp := vp.below hb3
  have T3 := (T2.alloc _).next hb3
  obtain ⟨p0, p1, p2⟩ := vp.cells
  have lp := vp.lt
  go_wp2_with fail
  refine (off_any true 1 0 2 _ (by omega) rfl).mono ?_
  rintro e w4 ⟨rfl, hb4⟩
  replace vp := (vp.alloc _).below hb4
  have T4 := (T3.alloc _).next hb4
  obtain ⟨p0, p1, p2⟩ := vp.cells
  have lp := vp.lt
  go_wp2_with fail
  refine (load_any (T4.alloc _).rep true 1 2 ⟨false, 0, 0⟩ 13 rfl).mono ?_
  rintro e w5 ⟨rfl, hb5⟩
  replace vp := (vp.alloc _).below hb5
  have T5 := (T4.alloc _).next hb5
  obtain ⟨p0, p1, p2⟩ := vp.cells
  have lp := vp.lt
  go_wp2_with fail
  refine (store_any (T5.alloc _).rep true 1 0 false 0 7 0 0 [none, none] rfl rfl rfl rfl (by decide)).mono ?_
  rintro e w6 ⟨rfl, ht⟩
  obtain ⟨lm6, loc6, T6, -, hK6⟩ := (T5.alloc _).turned ht
  clear ht
  replace vp := (vp.alloc _).kept hK6 fp
  obtain ⟨p0, p1, p2⟩ := vp.cells
  have lp := vp.lt
  go_wp2_with fail
  refine (load_any T6.rep true 1 0 ⟨false, 0, 7⟩ 0 rfl).mono ?_
  rintro e w7 ⟨rfl, hb7⟩
  replace vp := vp.below hb7
  have T7 := T6.next hb7
  obtain ⟨p0, p1, p2⟩ := vp.cells
  have lp := vp.lt
  go_wp2_with fail
  refine (live_any (T7.alloc _).rep).mono ?_
  rintro e w8 ⟨rfl, rfl⟩
  go_wp2_with fail
  refine (words_any (T7.alloc _).rep).mono ?_
  rintro e w8 ⟨rfl, rfl⟩
  go_wp2
  go_ret
  exact ⟨rfl, by rw [← HMB.out]; exact (T7.alloc _).below⟩
end Go.Proofs.Ytbcockaleegicaa
