/-
  CodeValid answers true for every input. No conditions.
-/
import Derived.Test.YtobhfmliaecbjaaDoorWorks
import Derived.Test.YtobhfmliaecbjaaDoorOver
import Derived.Test.YtobhfmliaecbjaaDoorRefV
import Derived.Test.YtobhfmliaecbjaaDoorMet
import Derived.Deep.RegionHeld3
import Derived.Deep.QuietTactic
import Derived.BigQuiet
import Derived.Test.YtobhfmliaecbjaaDoorCards
import Derived.Test.YtobhfmliaecbjaaDoorTie
import Derived.SevenTiedAt
namespace Go.Proofs.YtobhfmliaecbjaaDoor
open Go.RowKit Go.ChangeShapes Go.WideShapes Go.ChangeAt

theorem SmallP.lab {p : Pg} (h : SmallP p) : LabOk p := fun f hf x hx => Nat.le_trans (h.l f hf x hx) (by decide)

set_option maxRecDepth 100000 in
set_option maxHeartbeats 4000000 in
theorem codeValid_walk (w : World) (fv cv : Value) (p : Pg) (hP : PgV w fv cv p) (hT : TabAt w) (hW : PowAt w) (h4 : 4 ≤ w.heap.size) :
    Calls Tryd.prog 4 #[.agg #[fv, cv]] w fun e w' => e = .returned (.bool true) ∧ Below w.heap.size w w' := by
  have HP := Lib.hid hP
  obtain ⟨⟨oaf, capf, bf, off, rfl, -⟩, oac, capc, bc, offc, rfl, -⟩ := hP
  obtain ⟨W, hWe⟩ : ∃ W, W = w.alloc (.cells #[.slice oaf p.fs.length capf, .slice oac p.cs.length capc] 35) := ⟨_, rfl⟩
  have hb : Below w.heap.size w W := by rw [hWe]; exact alloc_below _ _
  have hx0 : W.heap[w.heap.size]? = some (.cells #[.slice oaf p.fs.length capf, .slice oac p.cs.length capc] 35) := by
    rw [hWe, heap_alloc_new]
  have HT := Lib.hid hT
  have HW := Lib.hid hW
  clear hT hW
  go_enter Tryd.func4, Tryd.ntmps4
  go_wp2_with fail
  rw [← hWe]
  clear hWe
  refine (works_any W (HT.out.below hb (by omega)) (HW.out.below hb h4) (Nat.le_trans h4 hb.size)).mono ?_
  rintro e w1 ⟨rfl, hb1⟩
  replace hx0 := keepB hx0 hb1
  have B1 : Below w.heap.size w w1 := hb.trans (hb1.mono hb.size)
  clear hb hb1
  have hc0 : ∀ w', Below w1.heap.size w1 w' → w'.cell? ⟨w.heap.size, 0, none⟩ = some (.slice oaf p.fs.length capf) ∧ w'.cell? ⟨w.heap.size, 1, none⟩ = some (.slice oac p.cs.length capc) := fun w' h => by
    have e0 := keepB hx0 h
    simp [World.cell?, e0]
  replace hc0 := Lib.hid hc0
  clear hx0
  obtain ⟨z0, z1⟩ := hc0.out w1 (Below.refl _ _)
  go_wp2_with fail
  refine (over_any w1 _ _ p (HP.out.below B1)).mono ?_
  rintro e w2 ⟨⟨b1, rfl, hs1⟩, hb2⟩
  have B2 : Below w1.heap.size w1 w2 := hb2
  have BW2 : Below w.heap.size w w2 := B1.trans (B2.mono B1.size)
  replace hs1 := Lib.hid hs1
  clear z0 z1 hb2
  obtain ⟨z0, z1⟩ := hc0.out w2 B2
  cases b1 with
  | true =>
    go_wp2
    go_returns
    exact ⟨rfl, BW2⟩
  | false =>
  have S1 := Lib.hid (hs1.out rfl)
  clear hs1
  have hgo := Lib.hid (show ∀ w', Below w1.heap.size w1 w' → Below w.heap.size w w' ∧ PgV w' (.slice oaf p.fs.length capf) (.slice oac p.cs.length capc) p ∧ PowAt w' ∧ TabAt w' ∧ 4 ≤ w'.heap.size from fun w' h => by
    have hb := B1.trans (h.mono B1.size)
    exact ⟨hb, HP.out.below hb, HW.out.below hb h4, HT.out.below hb (by omega), Nat.le_trans h4 hb.size⟩)
  have hfn : p.fs.length ≤ 65536 := Nat.le_trans S1.out.fs (by decide)
  have hcn : p.cs.length ≤ 65536 := Nat.le_trans S1.out.cs (by decide)
  have hLL := Lib.hid (show ∀ f ∈ p.fs, ∀ x ∈ f, x.l.length ≤ 1000000 from fun f hf x hx => Nat.le_trans (S1.out.l f hf x hx) (by decide))
  have tk : (kindsL p == kindsL p) = true := by simp
  go_wp2_with fail
  go_region_held3 (fun w' => w'.cell? ⟨w.heap.size, 0, none⟩ = some (.slice oaf p.fs.length capf) ∧ w'.cell? ⟨w.heap.size, 1, none⟩ = some (.slice oac p.cs.length capc)) (first | (refine ⟨?_, ?_⟩ <;> assumption) | go_keep)
    (first
      | (go_at_call 19; refine (kinds_any _ _ _ p (hgo.out _ (by exact B2.drew)).2.1 hfn hcn).mono ?_; rintro e w4 ⟨v4, rfl, hI4, hb4⟩; have B4 : Below w1.heap.size w1 w4 := B2.trans ((below_undrew hb4).mono B2.size); obtain ⟨y0, y1⟩ := hc0.out w4 B4; clear hb4; replace B4 := Lib.hid B4; replace hI4 := Lib.hid hI4)
      | (go_at_call 20; refine (refKinds_any _ _ _ p (hgo.out _ B4.out).2.1 hfn).mono ?_; rintro e w5 ⟨v5, rfl, hI5, hb5⟩; have B5 : Below w1.heap.size w1 w5 := B4.out.trans (hb5.mono B4.out.size); obtain ⟨v0, v1⟩ := hc0.out w5 B5; have hI45 := Lib.hid (hI4.out.below hb5); clear hb5; replace B5 := Lib.hid B5; replace hI5 := Lib.hid hI5)
      | (go_at_call 13; refine (row_any w5 v4 v5 _ _ hI45.out hI5.out).mono ?_; rintro e w6 ⟨rfl, hb6⟩; have B6 : Below w1.heap.size w1 w6 := B5.out.trans (hb6.mono B5.out.size); obtain ⟨t0, t1⟩ := hc0.out w6 B6; clear hb6; replace B6 := Lib.hid B6))
  clear z0 z1 y0 y1 v0 v1 B4 B5 hI4 hI5 hI45
  clear tk
  go_wp2_with fail
  go_region_held3 (fun w' => w'.cell? ⟨w.heap.size, 0, none⟩ = some (.slice oaf p.fs.length capf) ∧ w'.cell? ⟨w.heap.size, 1, none⟩ = some (.slice oac p.cs.length capc)) (first | (refine ⟨?_, ?_⟩ <;> assumption) | go_keep)
    (first
      | (go_at_call 21; refine (valid_any _ _ _ p (hgo.out _ (by exact B6.out.drew)).2.1 S1.out.lab (hgo.out _ (by exact B6.out.drew)).2.2.2.1).mono ?_; rintro e w7 ⟨b7, rfl, hb7i, hb7⟩; have B7 : Below w1.heap.size w1 w7 := B6.out.trans ((below_undrew hb7).mono B6.out.size); obtain ⟨y0, y1⟩ := hc0.out w7 B7; clear hb7; replace B7 := Lib.hid B7; replace hb7i := Lib.hid hb7i)
      | (go_at_call 22; refine (refValid_any _ _ _ p (hgo.out _ B7.out).2.1 hLL.out).mono ?_; rintro e w8 ⟨b8, rfl, hb8i, hb8⟩; have B8 : Below w1.heap.size w1 w8 := B7.out.trans (hb8.mono B7.out.size); obtain ⟨v0, v1⟩ := hc0.out w8 B8; clear hb8; replace B8 := Lib.hid B8; replace hb8i := Lib.hid hb8i))
  have BW8 := Lib.hid (hgo.out w8 B8.out).1
  have hbb : b7 = b8 := by
    have h1 := hb7i.out
    have h2 := hb8i.out
    cases b7 <;> cases b8 <;> simp_all
  subst hbb
  clear t0 t1 y0 y1 v0 v1
  cases b7
  all_goals
    go_wp2
    go_ret
    exact ⟨rfl, BW8.out⟩

set_option maxRecDepth 100000 in
theorem codeValid_lifted (os : Os) (started : os.Started) (H : Type) (enc : TypeId × Value → H) :
    ReturnsInHanded {} Tryd.checked os 4 .any (fun w args => (Rows.codeValidSpec.pre enc Tryd.prog Tryd.f4 [] false w args ∧ laidMetH Tryd.prog laid4 w) ∧ sizedMet enc Tryd.prog Tryd.f4 (OpenSpec.ofChange Rows.codeValidSpec) false w args)
      (Rows.codeValidSpec.post enc Tryd.prog Tryd.f4 false true false false) := by
  refine returnsInHanded_of_change_and (C := Tryd.checked) (X := fun w _ => laidMetH Tryd.prog laid4 w) (fun _ _ _ hh h => h.of_heap hh) own started (by kernel_rfl) Tryd.func4
    (ChangeSpec.witness_shaped (enc := enc) (C := Tryd.checked) (os := os) (X := fun w _ => laidMetH Tryd.prog laid4 w) false (World.doorLaid Tryd.prog 400 os) #[.agg #[.slice none 0 0, .slice none 0 0]] 8 rfl (World.shaped_of_RefB (by kernel_rfl) (by kernel_rfl)) (by kernel_rfl) (by kernel_rfl) (by kernel_rfl) (door_met os _)) ?_
  intro W base args ds gs before hval0 hW _ _ hL _
  have hval : ∀ (j : Nat) t v, Tryd.f4.params[j]? = some t → args[j]? = some v → Value.okWide Tryd.prog W .any base t v := hval0
  have hW' := hW
  obtain ⟨p, q, hA0, hV, rfl, hfz, hnd⟩ := hW
  have hA : DataW.TrodAll enc Tryd.prog W 0 (fun _ => true) true Tryd.f4.params.toList args.toList ds p := hA0
  rw [Tryd.params4] at hA hval
  obtain ⟨v0, vs0, d0, ds0, p0, q0, hargs, rfl, rfl, h0, r0⟩ := trodAll_cons hA
  obtain ⟨rfl, rfl, rfl⟩ := trodAll_nil r0
  obtain rfl : args = #[v0] := by cases args; simp_all
  obtain ⟨rfl, rfl⟩ := trodVars_none hV
  obtain ⟨fv, cv, pp, rfl, hP, -⟩ := open_pg (hval 0 35 v0 rfl rfl) h0
  obtain ⟨hT, hPw, h4⟩ := of_laid hL
  refine (codeValid_walk W fv cv pp hP hT hPw h4).mono fun e W' ⟨he, hb⟩ => ?_
  subst he
  exact ⟨_, rfl, law_post rfl rfl (by kernel_rfl) rfl hW' hb⟩

set_option maxRecDepth 100000 in
theorem codeValid_holds : Rows.CodeValidSaid :=
  OpenClaim.holds_of_wide 4 Tryd.f4 rfl rfl rfl rfl rfl rfl rfl ⟨rfl, rfl, rfl, rfl, rfl⟩ rfl rfl rfl rfl rfl (by kernel_rfl) Tryd.func4 (by kernel_rfl)
    (of_decide_eq_true (by kernel_rfl)) (by unfold Func.isWrapper; first | (rw [if_pos (by decide +kernel)]; kernel_rfl) | (rw [if_neg (by decide +kernel)]; exact ⟨rfl, rfl⟩))
    (fun os started H enc _ => codeValid_lifted os started H enc)

set_option maxRecDepth 100000 in
theorem codeValid_card : Rows.CodeValidCardSaid :=
  Claim7.holds_tied_plain_at .later [] [.data, .data, .data, .data] true (true, "e0d625a2e69adf01b107668993ea5ba20a030b330d5d389efb3f1299f4f792e2") false
    codeValid_holds (fun _ h => by cases h) (by kernel_rfl) (fun _ h => by cases h) codeValid_row_tie rfl ⟨rfl, rfl⟩ (by kernel_rfl) rfl
    (fun f fn hf hfn => by
      obtain rfl : f = 4 := Option.some.inj ((show Tryd.prog.funcNamed "cocoon/cocoonlaw02.CodeValid" = some 4 by kernel_rfl).symm.trans hf) |>.symm
      obtain rfl : fn = Tryd.f4 := (Option.some.inj (Tryd.func4.symm.trans hfn)).symm
      exact ⟨by kernel_rfl, fun j t ht => by
        rw [Tryd.params4] at ht
        have hm : t ∈ [35] := by simpa using Array.mem_of_getElem? ht
        have hall : ([35].all fun u => !Tryd.prog.wantsStandIn u) = true := by kernel_rfl
        exact (show Tryd.prog.wantsStandIn t = false by simpa using List.all_eq_true.1 hall t hm)⟩)
    (by kernel_rfl)
end Go.Proofs.YtobhfmliaecbjaaDoor
