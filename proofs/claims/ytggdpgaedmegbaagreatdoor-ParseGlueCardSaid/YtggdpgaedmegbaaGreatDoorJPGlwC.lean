/-
  ParseGlue answers true for every input. No conditions.
-/
import Derived.Test.YtggdpgaedmegbaaGreatDoorJPGlw
import Derived.Test.YtggdpgaedmegbaaGreatDoorJPClose
import Derived.Test.YtggdpgaedmegbaaGreatDoorCards
import Derived.Test.YtggdpgaedmegbaaGreatDoorTie
import Derived.SevenTiedAt
import Derived.ChangeMaps5
namespace Go.Proofs.YtggdpgaedmegbaaGreatDoor
open Go.RowKit Go.ChangeShapes Go.WideShapes Go.ChangeAt

set_option maxRecDepth 100000 in
theorem parseGlue_lifted (os : Os) (started : os.Started) (H : Type) (enc : TypeId × Value → H) :
    ReturnsInHanded {} Tryz.checked os 4 .any (fun w args => (Rows.parseGlueSpec.pre enc Tryz.prog Tryz.f4 [] false w args ∧ laidMetH Tryz.prog laid8 w) ∧ sizedMet enc Tryz.prog Tryz.f4 (OpenSpec.ofChange Rows.parseGlueSpec) false w args)
      (Rows.parseGlueSpec.post enc Tryz.prog Tryz.f4 false true false false) := by
  refine returnsInHanded_of_change_and (C := Tryz.checked) (X := fun w _ => laidMetH Tryz.prog laid8 w) (fun _ _ _ hh h => h.of_heap hh) own started (by kernel_rfl) Tryz.func4
    (ChangeSpec.witness_shaped (enc := enc) (C := Tryz.checked) (os := os) (X := fun w _ => laidMetH Tryz.prog laid8 w) false (World.doorLaid Tryz.prog 400 os) #[.string ⟨#[]⟩, .string ⟨#[]⟩] 8 rfl (World.shaped_of_RefB (by kernel_rfl) (by kernel_rfl)) (by kernel_rfl) (by kernel_rfl) (by kernel_rfl) (door_met os _)) ?_
  intro W base args ds gs before hval0 hW _ _ hL _
  have hval : ∀ (j : Nat) t v, Tryz.f4.params[j]? = some t → args[j]? = some v → Value.okWide Tryz.prog W .any base t v := hval0
  have hW' := hW
  obtain ⟨p, q, hA0, hV, rfl, hfz, hnd⟩ := hW
  have hA : DataW.TrodAll enc Tryz.prog W 0 (fun _ => true) true Tryz.f4.params.toList args.toList ds p := hA0
  rw [Tryz.params4] at hA hval
  obtain ⟨v0, vs0, d0, ds0, p0, q0, hargs, rfl, rfl, h0, r0⟩ := trodAll_cons hA
  obtain ⟨v1, vs1, d1, ds1, p1, q1, rfl, rfl, rfl, h1, r1⟩ := trodAll_cons r0
  obtain ⟨rfl, rfl, rfl⟩ := trodAll_nil r1
  obtain rfl : args = #[v0, v1] := by cases args; simp_all
  obtain ⟨rfl, rfl⟩ := trodVars_none hV
  obtain ⟨s0, rfl, rfl, rfl, -⟩ := Go.ChangeMaps.open_string Tryz.underlying9 (hval 0 9 v0 rfl rfl) h0
  obtain ⟨s1, rfl, rfl, rfl, -⟩ := Go.ChangeMaps.open_string Tryz.underlying9 (hval 1 9 v1 rfl rfl) h1
  refine (glue_walk s0 s1 W (of_laid hL)).mono fun e W' ⟨he, hb⟩ => ?_
  subst he
  exact ⟨_, rfl, law_post rfl rfl (by kernel_rfl) rfl hW' hb⟩

set_option maxRecDepth 100000 in
theorem parseGlue_closed : joinedFacts Tryz.checked.prog 4 Tryz.f4 Rows.parseGlueSpec Rows.parseGlueRow = true := by kernel_rfl
set_option maxRecDepth 100000 in
theorem parseGlue_named : Tryz.checked.prog.funcNamed Rows.parseGlueRow.func = some 4 := by kernel_rfl
set_option maxRecDepth 100000 in
theorem parseGlue_inst : (Tryz.f4).isInstance Tryz.checked.prog Rows.parseGlueRow.origin Rows.parseGlueRow.targs := of_decide_eq_true (by kernel_rfl)
set_option maxRecDepth 100000 in
theorem parseGlue_wrap : (Tryz.f4).isWrapper Tryz.checked.prog Rows.parseGlueRow.wrapper Rows.parseGlueRow.mainSum := by unfold Func.isWrapper; first | (rw [if_pos (by decide +kernel)]; kernel_rfl) | (rw [if_neg (by decide +kernel)]; exact ⟨rfl, rfl⟩)
set_option maxRecDepth 100000 in
theorem parseGlue_holds : Rows.ParseGlueSaid :=
  OpenClaim.holds_of_wide 4 Tryz.f4 rfl rfl rfl rfl rfl rfl rfl ⟨rfl, rfl, rfl, rfl, rfl⟩ rfl rfl rfl rfl rfl parseGlue_named Tryz.func4 parseGlue_closed
    parseGlue_inst parseGlue_wrap
    (fun os started H enc _ => parseGlue_lifted os started H enc)

set_option maxRecDepth 100000 in
theorem parseGlue_wf : Rows.parseGlueRow.wfByText (OpenSpec.ofChange Rows.parseGlueSpec) = true := by kernel_rfl
set_option maxRecDepth 100000 in
theorem parseGlue_main : Tryz.checked.prog.mainIs = some ((true, "cc34ccd882e41ef0c82654d16e8e85bf082fd6db72632ef4629e8bba89571354").1, ((true, "cc34ccd882e41ef0c82654d16e8e85bf082fd6db72632ef4629e8bba89571354").2 : String).toList) := by kernel_rfl
set_option maxRecDepth 100000 in
theorem parseGlue_name : Tryz.prog.funcNamed "cocoon/cocoonlaw06.ParseGlue" = some 4 := by kernel_rfl
set_option maxRecDepth 100000 in
theorem parseGlue_looks : true = Tryz.checked.prog.looks [] := by kernel_rfl
set_option maxRecDepth 100000 in
theorem parseGlue_goes : false = Rows.parseGlueRow.goesBy Tryz.checked.prog := by kernel_rfl
set_option maxRecDepth 100000 in
theorem parseGlue_stand : ([9].all fun u => !Tryz.prog.wantsStandIn u) = true := by kernel_rfl
theorem parseGlue_at (f : FuncId) (fn : Func) (hf : Tryz.checked.prog.funcNamed Rows.parseGlueRow.func = some f) (hfn : Tryz.checked.prog.funcs[f]? = some fn) :
    true = Tryz.checked.prog.looks [] ∧ ∀ (j : Nat) t, fn.params[j]? = some t → Tryz.checked.prog.wantsStandIn t = false := by
  obtain rfl : f = 4 := Option.some.inj (parseGlue_named.symm.trans hf) |>.symm
  obtain rfl : fn = Tryz.f4 := (Option.some.inj (Tryz.func4.symm.trans hfn)).symm
  exact ⟨parseGlue_looks, fun j t ht => by
    rw [Tryz.params4] at ht
    have hm : t ∈ [9] := by have h := Array.mem_of_getElem? ht; simp at h; simp [h]
    exact (show Tryz.prog.wantsStandIn t = false by simpa using List.all_eq_true.1 parseGlue_stand t hm)⟩
set_option maxRecDepth 100000 in
theorem parseGlue_card : Rows.ParseGlueCardSaid :=
  Claim7.holds_tied_plain_at .later [] [.data, .data, .data, .sentinel, .sentinel, .data, .data, .data] true (true, "cc34ccd882e41ef0c82654d16e8e85bf082fd6db72632ef4629e8bba89571354") true
    parseGlue_holds (fun _ h => by cases h) parseGlue_wf (fun _ h => by cases h) parseGlue_row_tie rfl ⟨rfl, rfl⟩ parseGlue_main rfl
    parseGlue_at parseGlue_goes
end Go.Proofs.YtggdpgaedmegbaaGreatDoor
