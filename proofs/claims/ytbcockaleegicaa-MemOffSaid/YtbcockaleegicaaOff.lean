/-
  MemOff answers true for every input. No conditions.
-/
import Derived.Test.YtbcockaleegicaaWorks
import Derived.Test.YtbcockaleegicaaClose
namespace Go.Proofs.Ytbcockaleegicaa
open Go.RowKit Go.ChangeShapes Go.WideShapes Go.ChangeAt

set_option maxHeartbeats 400000 in
theorem off_wrap (a n k : Int) (w : World) :
    Calls Try.prog 32 #[.agg #[.bool true, .int .i64 a, .int .i64 n], .int .i64 k] w fun e w' => e = .returned (.tuple #[.agg #[.bool true, .int .i64 a, .int .i64 (wrap64 (n + k))], .int .i64 0]) ∧ Below w.heap.size w w' := by
  go_enter Try.func32, Try.ntmps32
  go_wp2
  go_returns
  exact ⟨rfl, by go_grown⟩
set_option maxHeartbeats 400000 in
theorem off_kind (a n k : Int) (w : World) :
    Calls Try.prog 32 #[.agg #[.bool false, .int .i64 a, .int .i64 n], .int .i64 k] w fun e w' => e = .returned (.tuple #[.agg #[.bool false, .int .i64 0, .int .i64 0], .int .i64 11]) ∧ Below w.heap.size w w' := by
  go_enter Try.func32, Try.ntmps32
  go_wp2
  go_returns
  exact ⟨rfl, by go_grown⟩

set_option maxHeartbeats 400000 in
theorem memOff_walk (b : Bool) (a n k : Int) (w : World) : Calls Try.prog 4 #[.agg #[.bool b, .int .i64 a, .int .i64 n], .int .i64 k] w fun e w' => e = .returned (.bool true) ∧ Below w.heap.size w w' := by
  cases b with
  | true =>
    go_enter Try.func4, Try.ntmps4
    go_wp2_with fail
    refine (works_any _).mono ?_
    rintro e w1 ⟨rfl, hb1⟩
    have v1 := (Var.mk w true a n).below hb1
    have T1 := box_below hb1
    obtain ⟨p0, p1, p2⟩ := v1.cells
    have lp := v1.lt
    go_wp2_with fail
    refine (off_wrap a n k _).mono ?_
    rintro e w2 ⟨rfl, hb2⟩
    have v2 := v1.below hb2
    have T2 := T1.trans (hb2.mono T1.size)
    obtain ⟨q0, q1, q2⟩ := v2.cells
    have lq := v2.lt
    go_wp2
    go_ret
    exact ⟨rfl, T2.alloc T2.size _⟩
  | false =>
    go_enter Try.func4, Try.ntmps4
    go_wp2_with fail
    refine (works_any _).mono ?_
    rintro e w1 ⟨rfl, hb1⟩
    have v1 := (Var.mk w false a n).below hb1
    have T1 := box_below hb1
    obtain ⟨p0, p1, p2⟩ := v1.cells
    have lp := v1.lt
    go_wp2_with fail
    refine (off_kind a n k _).mono ?_
    rintro e w2 ⟨rfl, hb2⟩
    have v2 := v1.below hb2
    have T2 := T1.trans (hb2.mono T1.size)
    obtain ⟨q0, q1, q2⟩ := v2.cells
    have lq := v2.lt
    go_wp2
    go_ret
    exact ⟨rfl, T2.alloc T2.size _⟩

theorem memOff_lifted (os : Os) (started : os.Started) (H : Type) (enc : TypeId × Value → H) :
    ReturnsInHanded {} Try.checked os 4 .any (Rows.memOffSpec.pre6 enc Try.prog Try.f4 Rows.memOffRow.domain false) (Rows.memOffSpec.post enc Try.prog Try.f4 false true false false) := by
  refine returnsInHanded_of_change (C := Try.checked) own started (by kernel_rfl) Try.func4
    (ChangeSpec.witness6 (enc := enc) (C := Try.checked) false ⟨#[], #[.agg #[.bool false, .int .i64 0, .int .i64 0], .int .i64 0], []⟩ 8 (by kernel_rfl) (by kernel_rfl) (by kernel_rfl) (by kernel_rfl)) ?_
  intro W base args ds gs before hval0 hW _ _
  have hval : ∀ (j : Nat) t v, Try.f4.params[j]? = some t → args[j]? = some v → Value.okWide Try.prog W .any base t v := hval0
  have hW' := hW
  obtain ⟨p, q, hA0, hV, rfl, hfz, hnd⟩ := hW
  have hA : DataW.TrodAll enc Try.prog W 0 (fun _ => true) true Try.f4.params.toList args.toList ds p := hA0
  rw [Try.params4] at hA hval
  obtain ⟨v0, v1, d0, d1, p0, p1, rfl, rfl, rfl, h0, h1⟩ := trodAll_two hA
  obtain ⟨rfl, rfl⟩ := trodVars_none hV
  obtain ⟨b, a, n, rfl, wa, wn, rfl⟩ := open_word (hval 0 30 v0 rfl rfl) h0
  obtain ⟨k, rfl, rfl, rfl, wk⟩ := open_int Try.underlying3 (hval 1 3 v1 rfl rfl) h1
  refine (memOff_walk b a n k W).mono fun e W' ⟨he, hb⟩ => ?_
  subst he
  exact ⟨_, rfl, law_post rfl rfl (by kernel_rfl) rfl hW' hb⟩

theorem memOff_holds : Rows.MemOffSaid :=
  OpenClaim.holds_of_wide 4 Try.f4 rfl rfl rfl rfl rfl rfl rfl ⟨rfl, rfl, rfl, rfl, rfl⟩ rfl rfl rfl rfl rfl (by kernel_rfl) Try.func4 (by kernel_rfl)
    (of_decide_eq_true (by kernel_rfl)) (by unfold Func.isWrapper; first | (rw [if_pos (by decide +kernel)]; kernel_rfl) | (rw [if_neg (by decide +kernel)]; exact ⟨rfl, rfl⟩))
    (fun os started H enc _ => memOff_lifted os started H enc)
end Go.Proofs.Ytbcockaleegicaa
