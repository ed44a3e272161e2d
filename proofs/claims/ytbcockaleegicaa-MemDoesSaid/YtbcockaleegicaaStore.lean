/-
  The walk of (*mem.Memory).Store. Conditions: the memory lies in the heap.
-/
import Derived.Test.YtbcockaleegicaaRow
namespace Go.Proofs.Ytbcockaleegicaa
open Go.RowKit

section
variable {w : World} {mb : Nat} {lm : Option Nat} {loc : Nat → Nat} {S : MS}

set_option maxHeartbeats 400000 in
theorem store_fail (R : RepAt w mb lm loc S) (b : Bool) (a n er : Int) (x : Wd) (he : spanE S b a n 1 = er) (hne : er ≠ 0) (hn : n ≤ 9223372036854775807) :
    Calls Try.prog 21 #[.pointer (some ⟨mb, 0, none⟩), .agg #[.bool b, .int .i64 a, .int .i64 n], .agg #[.bool x.p, .int .i64 x.a, .int .i64 x.n]] w fun e w' =>
      e = .returned (.int .i64 er) ∧ Below w.heap.size w w' := by
  have HE := Lib.hid he
  have hd : (er == 0) = false := by simpa using hne
  have hd' : (er != 0) = true := by simpa using hne
  clear he
  go_enter Try.func21, Try.ntmps21
  go_wp2_with fail
  refine (span_fail ((R.alloc _).alloc _) b a n 1 er HE.out hne hn).mono ?_
  rintro e w1 ⟨rfl, hb⟩
  go_wp2
  go_ret
  exact ⟨rfl, box2_below hb⟩

set_option maxHeartbeats 400000 in
theorem store_ok (R : RepAt w mb lm loc S) (k : Nat) (l : List Cl) (hl : S.at k = some l) (n : Nat) (x : Wd) (hn : n < l.length) :
    Calls Try.prog 21 #[.pointer (some ⟨mb, 0, none⟩), .agg #[.bool true, .int .i64 ((k : Int) + 1), .int .i64 (n : Int)], .agg #[.bool x.p, .int .i64 x.a, .int .i64 x.n]] w fun e w' =>
      e = .returned (.int .i64 0) ∧ Turned w w' mb lm loc S (S.setb k (some (l.set n (some x)))) := by
  go_enter Try.func21, Try.ntmps21
  go_wp2_with fail
  refine (span_ok ((R.alloc _).alloc _) k l hl n 1 (by omega) (R.len hl)).mono ?_
  rintro e w1 ⟨⟨ad, rfl, had⟩, hb⟩
  obtain rfl := had (by omega)
  have hrow := (((R.alloc _).alloc _).below hb).blk k l hl
  obtain ⟨c, hc⟩ : ∃ c, l[n]? = some c := ⟨_, List.getElem?_eq_getElem hn⟩
  obtain ⟨v0, v1, v2, v3, hv⟩ : ∃ v0 v1 v2 v3, cv c = [v0, v1, v2, v3] := by cases c <;> exact ⟨_, _, _, _, rfl⟩
  have g0 := row_cell hrow n 0 _ hc (by omega) v0 (by rw [hv]; rfl) (n * 4) (by omega)
  have g1 := row_cell hrow n 1 _ hc (by omega) v1 (by rw [hv]; rfl) (n * 4 + 1) (by omega)
  have g2 := row_cell hrow n 2 _ hc (by omega) v2 (by rw [hv]; rfl) (n * 4 + 2) (by omega)
  have g3 := row_cell hrow n 3 _ hc (by omega) v3 (by rw [hv]; rfl) (n * 4 + 3) (by omega)
  have gf : ∀ j, w1.frozen? ⟨loc k, j, none⟩ = false := fun j => by simp [World.frozen?, hrow]
  have HR := Lib.hid hrow
  have HV := Lib.hid hv
  have HC := Lib.hid hc
  clear hrow hv hc had
  have q0 := box2_cell hb 0 (.bool x.p) rfl
  have q1 := box2_cell hb 1 (.int .i64 x.a) rfl
  have q2 := box2_cell hb 2 (.int .i64 x.n) rfl
  go_wp2
  go_ret
  refine ⟨rfl, row_rep R hl (by simp) (box2_below hb) ?_ (fun b hne => ?_) ⟨rfl, rfl, rfl, by simp [World.setCell]⟩⟩
  · rw [heap_setCell_same (heap_setCell_same (heap_setCell_same (heap_setCell_same HR.out _ _) _ _) _ _) _ _, rowv_set l n hn (some x) _ _ _ _ rfl]
  · rw [Below.heap_setCell _ _ _ _ hne, Below.heap_setCell _ _ _ _ hne, Below.heap_setCell _ _ _ _ hne, Below.heap_setCell _ _ _ _ hne]
end
end Go.Proofs.Ytbcockaleegicaa
