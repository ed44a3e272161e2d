/-
  ParseBlanks answers true for every input. No conditions.
-/
import Derived.Test.YtggdpgaedmegbaaGreatDoorJPBlw
import Derived.Test.YtggdpgaedmegbaaGreatDoorJPClose
import Derived.Test.YtggdpgaedmegbaaGreatDoorCards
import Derived.Test.YtggdpgaedmegbaaGreatDoorTie
import Derived.SevenTiedAt
import Derived.ChangeMaps5
namespace Go.Proofs.YtggdpgaedmegbaaGreatDoor
open Go.RowKit Go.ChangeShapes Go.WideShapes Go.ChangeAt

set_option maxRecDepth 100000 in
theorem parseBlanks_lifted (os : Os) (started : os.Started) (H : Type) (enc : TypeId × Value → H) :
    ReturnsInHanded {} Tryz.checked os 5 .any (fun w args => (Rows.parseBlanksSpec.pre enc Tryz.prog Tryz.f5 [] false w args ∧ laidMetH Tryz.prog laid8 w) ∧ sizedMet enc Tryz.prog Tryz.f5 (OpenSpec.ofChange Rows.parseBlanksSpec) false w args)
      (Rows.parseBlanksSpec.post enc Tryz.prog Tryz.f5 false true false false) := by
  refine returnsInHanded_of_change_and (C := Tryz.checked) (X := fun w _ => laidMetH Tryz.prog laid8 w) (fun _ _ _ hh h => h.of_heap hh) own started (by kernel_rfl) Tryz.func5
    (ChangeSpec.witness_shaped (enc := enc) (C := Tryz.checked) (os := os) (X := fun w _ => laidMetH Tryz.prog laid8 w) false (World.doorLaid Tryz.prog 400 os) #[.string ⟨#[]⟩] 8 rfl (World.shaped_of_RefB (by kernel_rfl) (by kernel_rfl)) (by kernel_rfl) (by kernel_rfl) (by kernel_rfl) (door_met os _)) ?_
  intro W base args ds gs before hval0 hW _ _ hL _
  have hval : ∀ (j : Nat) t v, Tryz.f5.params[j]? = some t → args[j]? = some v → Value.okWide Tryz.prog W .any base t v := hval0
  have hW' := hW
  obtain ⟨p, q, hA0, hV, rfl, hfz, hnd⟩ := hW
  have hA : DataW.TrodAll enc Tryz.prog W 0 (fun _ => true) true Tryz.f5.params.toList args.toList ds p := hA0
  rw [Tryz.params5] at hA hval
  obtain ⟨v0, vs0, d0, ds0, p0, q0, hargs, rfl, rfl, h0, r0⟩ := trodAll_cons hA
  obtain ⟨rfl, rfl, rfl⟩ := trodAll_nil r0
  obtain rfl : args = #[v0] := by cases args; simp_all
  obtain ⟨rfl, rfl⟩ := trodVars_none hV
  obtain ⟨s0, rfl, rfl, rfl, -⟩ := Go.ChangeMaps.open_string Tryz.underlying9 (hval 0 9 v0 rfl rfl) h0
  refine (blanks_walk s0 W (of_laid hL)).mono fun e W' ⟨he, hb⟩ => ?_
  subst he
  exact ⟨_, rfl, law_post rfl rfl (by kernel_rfl) rfl hW' hb⟩

set_option maxRecDepth 100000 in
theorem parseBlanks_closed : joinedFacts Tryz.checked.prog 5 Tryz.f5 Rows.parseBlanksSpec Rows.parseBlanksRow = true := by kernel_rfl
set_option maxRecDepth 100000 in
theorem parseBlanks_named : Tryz.checked.prog.funcNamed Rows.parseBlanksRow.func = some 5 := by kernel_rfl
set_option maxRecDepth 100000 in
theorem parseBlanks_inst : (Tryz.f5).isInstance Tryz.checked.prog Rows.parseBlanksRow.origin Rows.parseBlanksRow.targs := of_decide_eq_true (by kernel_rfl)
set_option maxRecDepth 100000 in
theorem parseBlanks_wrap : (Tryz.f5).isWrapper Tryz.checked.prog Rows.parseBlanksRow.wrapper Rows.parseBlanksRow.mainSum := by unfold Func.isWrapper; first | (rw [if_pos (by decide +kernel)]; kernel_rfl) | (rw [if_neg (by decide +kernel)]; exact ⟨rfl, rfl⟩)
set_option maxRecDepth 100000 in
theorem parseBlanks_holds : Rows.ParseBlanksSaid :=
  OpenClaim.holds_of_wide 5 Tryz.f5 rfl rfl rfl rfl rfl rfl rfl ⟨rfl, rfl, rfl, rfl, rfl⟩ rfl rfl rfl rfl rfl parseBlanks_named Tryz.func5 parseBlanks_closed
    parseBlanks_inst parseBlanks_wrap
    (fun os started H enc _ => parseBlanks_lifted os started H enc)

set_option maxRecDepth 100000 in
theorem parseBlanks_wf : Rows.parseBlanksRow.wfByText (OpenSpec.ofChange Rows.parseBlanksSpec) = true := by kernel_rfl
set_option maxRecDepth 100000 in
theorem parseBlanks_main : Tryz.checked.prog.mainIs = some ((true, "cc34ccd882e41ef0c82654d16e8e85bf082fd6db72632ef4629e8bba89571354").1, ((true, "cc34ccd882e41ef0c82654d16e8e85bf082fd6db72632ef4629e8bba89571354").2 : String).toList) := by kernel_rfl
set_option maxRecDepth 100000 in
theorem parseBlanks_name : Tryz.prog.funcNamed "cocoon/cocoonlaw06.ParseBlanks" = some 5 := by kernel_rfl
set_option maxRecDepth 100000 in
theorem parseBlanks_looks : true = Tryz.checked.prog.looks [] := by kernel_rfl
set_option maxRecDepth 100000 in
theorem parseBlanks_goes : false = Rows.parseBlanksRow.goesBy Tryz.checked.prog := by kernel_rfl
set_option maxRecDepth 100000 in
theorem parseBlanks_stand : ([9].all fun u => !Tryz.prog.wantsStandIn u) = true := by kernel_rfl
theorem parseBlanks_at (f : FuncId) (fn : Func) (hf : Tryz.checked.prog.funcNamed Rows.parseBlanksRow.func = some f) (hfn : Tryz.checked.prog.funcs[f]? = some fn) :
    true = Tryz.checked.prog.looks [] ∧ ∀ (j : Nat) t, fn.params[j]? = some t → Tryz.checked.prog.wantsStandIn t = false := by
  obtain rfl : f = 5 := Option.some.inj (parseBlanks_named.symm.trans hf) |>.symm
  obtain rfl : fn = Tryz.f5 := (Option.some.inj (Tryz.func5.symm.trans hfn)).symm
  exact ⟨parseBlanks_looks, fun j t ht => by
    rw [Tryz.params5] at ht
    have hm : t ∈ [9] := by have h := Array.mem_of_getElem? ht; simp at h; simp [h]
    exact (show Tryz.prog.wantsStandIn t = false by simpa using List.all_eq_true.1 parseBlanks_stand t hm)⟩
set_option maxRecDepth 100000 in
theorem parseBlanks_card : Rows.ParseBlanksCardSaid :=
  Claim7.holds_tied_plain_at .later [] [.data, .data, .data, .sentinel, .sentinel, .data, .data, .data] true (true, "cc34ccd882e41ef0c82654d16e8e85bf082fd6db72632ef4629e8bba89571354") true
    parseBlanks_holds (fun _ h => by cases h) parseBlanks_wf (fun _ h => by cases h) parseBlanks_row_tie rfl ⟨rfl, rfl⟩ parseBlanks_main rfl
    parseBlanks_at parseBlanks_goes
end Go.Proofs.YtggdpgaedmegbaaGreatDoor
