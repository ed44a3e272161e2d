/-
  MirMore answers true for every input whose bulk is at most 1048576. Conditions: that bound, as the second form has it.
-/
import Derived.Test.YtghkbihgdabamaaGreatDoorKQClose
import Derived.Test.YtghkbihgdabamaaGreatDoorKQBoArgs
import Derived.Test.YtghkbihgdabamaaGreatDoorCards
import Derived.Test.YtghkbihgdabamaaGreatDoorTie
import Derived.SevenTiedAt
import Derived.ChangeMaps5
import Derived.Deep.DeepHandedRow
import Derived.Deep.DeepWitnessRowRef
namespace Go.Proofs.YtghkbihgdabamaaGreatDoor
open Go.RowKit Go.ChangeShapes Go.WideShapes Go.ChangeAt

theorem bls_sum : ∀ (l : List Bl), l.length ≤ (l.map blS).sum ∧ ∀ x ∈ l, x.ins.length ≤ (l.map blS).sum
  | [] => ⟨Nat.le_refl _, fun _ h => by cases h⟩
  | y :: l => by
    obtain ⟨h1, h2⟩ := bls_sum l
    have hy : blS y = y.ins.length + 1 := rfl
    simp only [List.length_cons, List.map_cons, List.sum_cons]
    refine ⟨by omega, fun x hx => ?_⟩
    rcases List.mem_cons.1 hx with rfl | hx
    · omega
    · have := h2 x hx
      omega
theorem bo_bl {b : Bo} {n : Nat} (h : boS b ≤ n) : b.blocks.length ≤ n ∧ ∀ x ∈ b.blocks, x.ins.length ≤ n := by
  obtain ⟨h1, h2⟩ := bls_sum b.blocks
  unfold boS at h
  exact ⟨by omega, fun x hx => by have := h2 x hx; omega⟩
theorem mirMore_reads (os : Os) {H : Type} (enc : TypeId × Value → H) : ∃ places, DataW.whole enc Tryz.prog ((World.doorLaid Tryz.prog 400 os).forCall (fun _ _ => 0) ⟨#[], #[.agg #[.slice none 0 0, .slice none 0 0, .slice none 0 0], .agg #[.string ⟨#[]⟩, .int .i64 0, .slice none 0 0, .slice none 0 0], .int .i64 0, .int .i64 0], []⟩).memory Tryz.f5.params.toList Rows.mirMoreSpec.vars false (#[.agg #[.slice none 0 0, .slice none 0 0, .slice none 0 0], .agg #[.string ⟨#[]⟩, .int .i64 0, .slice none 0 0, .slice none 0 0], .int .i64 0, .int .i64 0] : Array Value).toList 8 = some ([.agg [.nil, .nil, .nil], .agg [.lit (.string []), .lit (.int .i64 0), .nil, .nil], .lit (.int .i64 0), .lit (.int .i64 0)], [], places) :=
  ⟨[], by kernel_rfl⟩

set_option maxRecDepth 100000 in
theorem mirMore_lifted (os : Os) (started : os.Started) (H : Type) (enc : TypeId × Value → H) (F : Stop.Interp) :
    ReturnsInHanded {} Tryz.checked os 5 .any ((Rows.OpenSpec.upto Rows.mirMoreSpec).preRow enc Tryz.prog Tryz.f5 Rows.mirMoreUptoRow.domain false Rows.mirMoreUptoRow.laid) (((Rows.OpenSpec.upto Rows.mirMoreSpec).at F).post enc Tryz.prog Tryz.f5 false true false false) := by
  obtain ⟨places, hx⟩ := mirMore_reads os enc
  refine returnsInHanded_of_row (C := Tryz.checked) (s := Rows.OpenSpec.upto Rows.mirMoreSpec) own started (by kernel_rfl) Tryz.func5
    (witness_row_atRef (enc := enc) (C := Tryz.checked) false (World.doorLaid Tryz.prog 400 os) #[.agg #[.slice none 0 0, .slice none 0 0, .slice none 0 0], .agg #[.string ⟨#[]⟩, .int .i64 0, .slice none 0 0, .slice none 0 0], .int .i64 0, .int .i64 0] rfl (by kernel_rfl) (by kernel_rfl) (by kernel_rfl)
      (OpenSpec.preRow_of_cond 8 hx (by kernel_rfl) (fun k hk => by cases hk; kernel_rfl) (by kernel_rfl) (door_met os _))) ?_
  intro W base args ds gs before hval0 hW _ hcond _ hL _ _
  have hval : ∀ (j : Nat) t v, Tryz.f5.params[j]? = some t → args[j]? = some v → Value.okWide Tryz.prog W .any base t v := hval0
  have hk := hcond _ rfl
  have hW' := hW
  obtain ⟨p, q, hA0, hV, rfl, hfz, hnd⟩ := hW
  have hA : DataW.TrodAll enc Tryz.prog W 0 (fun _ => true) true Tryz.f5.params.toList args.toList ds p := hA0
  rw [Tryz.params5] at hA hval
  obtain ⟨v0, vs0, d0, ds0, p0, q0, hargs, rfl, rfl, h0, r0⟩ := trodAll_cons hA
  obtain ⟨v1, vs1, d1, ds1, p1, q1, rfl, rfl, rfl, h1, r1⟩ := trodAll_cons r0
  obtain ⟨v2, vs2, d2, ds2, p2, q2, rfl, rfl, rfl, h2, r2⟩ := trodAll_cons r1
  obtain ⟨v3, vs3, d3, ds3, p3, q3, rfl, rfl, rfl, h3, r3⟩ := trodAll_cons r2
  obtain ⟨rfl, rfl, rfl⟩ := trodAll_nil r3
  obtain rfl : args = #[v0, v1, v2, v3] := by cases args; simp_all
  obtain ⟨rfl, rfl⟩ := trodVars_none hV
  have hbk := of_decide_eq_true hk
  simp only [List.cons_append, List.nil_append, Rows.uptoBulkAll] at hbk
  obtain ⟨n0, s, rfl, hS', hz0⟩ := open_sz (hval 0 26 v0 rfl rfl) h0
  obtain ⟨n1, b, rfl, hB', hz1⟩ := open_bo (hval 1 30 v1 rfl rfl) h1
  obtain ⟨z2, rfl, hd2, -, hW2⟩ := open_int Tryz.underlying3 (hval 2 3 v2 rfl rfl) h2
  have hZ2 := i64_bounds hW2
  obtain ⟨z3, rfl, hd3, -, hW3⟩ := open_int Tryz.underlying3 (hval 3 3 v3 rfl rfl) h3
  have hZ3 := i64_bounds hW3
  have hs0 : soS s ≤ 1048576 := by omega
  have hb0 : boS b ≤ 1048576 := by omega
  have hS : SoH (max n0 n1) W s := hS'.le2 (Nat.le_max_left _ _)
  have hB : BoH (max n0 n1) W b := hB'.le (Nat.le_max_right _ _)
  refine (mirMore_walk (max n0 n1) s b z2 z3 W hS (SoN.of hs0) hB (BoN.of hb0) (bo_bl hb0).1 (bo_bl hb0).2 hZ2 hZ3).mono fun e W' ⟨he, hb⟩ => ?_
  subst he
  exact ⟨_, rfl, law_post rfl rfl (by kernel_rfl) rfl hW' hb⟩

set_option maxRecDepth 100000 in
theorem mirMore_upto : Rows.MirMoreUptoSaid :=
  OpenClaim.holds_of_cond 5 Tryz.f5 rfl rfl rfl rfl rfl rfl rfl ⟨rfl, rfl, rfl, rfl, rfl⟩ rfl rfl rfl rfl rfl (by kernel_rfl) Tryz.func5 (by kernel_rfl)
    (of_decide_eq_true (by kernel_rfl)) (by unfold Func.isWrapper; first | (rw [if_pos (by decide +kernel)]; kernel_rfl) | (rw [if_neg (by decide +kernel)]; exact ⟨rfl, rfl⟩))
    (fun os started H enc _ F => by rw [OpenClaim.pre_eq_preRow]; exact mirMore_lifted os started H enc F)

theorem mirMore_names : Tryz.prog.funcNamed "cocoon/cocoonlaw09.MirMore" = some 5 := by kernel_rfl
theorem mirMore_stand : ([26, 30, 3].all fun u => !Tryz.prog.wantsStandIn u) = true := by kernel_rfl
set_option maxRecDepth 100000 in
theorem mirMore_uptoCard : Rows.MirMoreUptoCardSaid :=
  Claim7.holds_tied_plain_at .later [] _ _ _ _
    mirMore_upto (fun _ h => by cases h) (by kernel_rfl) (fun _ h => by cases h) mirMoreUpto_row_tie rfl ⟨rfl, rfl⟩ (by kernel_rfl) rfl
    (fun f fn hf hfn => by
      obtain rfl : f = 5 := Option.some.inj (mirMore_names.symm.trans hf) |>.symm
      obtain rfl : fn = Tryz.f5 := (Option.some.inj (Tryz.func5.symm.trans hfn)).symm
      exact ⟨by kernel_rfl, fun j t ht => by
        rw [Tryz.params5] at ht
        have hm : t ∈ [26, 30, 3] := by have h := Array.mem_of_getElem? ht; simp at h; simp [h]
        exact (show Tryz.prog.wantsStandIn t = false by simpa using List.all_eq_true.1 mirMore_stand t hm)⟩)
    (by kernel_rfl)
end Go.Proofs.YtghkbihgdabamaaGreatDoor
