/-
  CodeTextOnce answers true for every input. No conditions.
-/
import Derived.Test.YtobhfmliaecbjaaDoorWorks
import Derived.Test.YtobhfmliaecbjaaDoorOver
import Derived.Test.YtobhfmliaecbjaaDoorOnce
import Derived.Test.YtobhfmliaecbjaaDoorMet
import Derived.Deep.RegionHeld3
import Derived.Deep.QuietTactic
import Derived.BigQuiet
import Derived.Test.YtobhfmliaecbjaaDoorCards
import Derived.Test.YtobhfmliaecbjaaDoorTie
import Derived.SevenTiedAt
namespace Go.Proofs.YtobhfmliaecbjaaDoor
open Go.RowKit Go.ChangeShapes Go.WideShapes Go.ChangeAt

theorem SmallP.lab {p : Pg} (h : SmallP p) : LabOk p := fun f hf x hx => Nat.le_trans (h.l f hf x hx) (by decide)

set_option maxRecDepth 100000 in
set_option maxHeartbeats 4000000 in
theorem codeTextOnce_walk (w : World) (fv cv gv dv : Value) (p q : Pg) (hP : PgV w fv cv p) (hQ : PgV w gv dv q) (hNp : NumP p) (hNq : NumP q) (hT : TabAt w) (hW : PowAt w) (h4 : 4 ≤ w.heap.size) :
    Calls Tryd.prog 9 #[.agg #[fv, cv], .agg #[gv, dv]] w fun e w' => e = .returned (.bool true) ∧ Below w.heap.size w w' := by
  have HP := Lib.hid hP
  have HQ := Lib.hid hQ
  obtain ⟨⟨oaf, capf, bf, off, rfl, -⟩, oac, capc, bc, offc, rfl, -⟩ := hP
  obtain ⟨⟨oag, capg, bg, ofg, rfl, -⟩, oad, capd, bd, ofd, rfl, -⟩ := hQ
  obtain ⟨fv, hfv⟩ : ∃ v, v = Value.slice oaf p.fs.length capf := ⟨_, rfl⟩
  obtain ⟨W, hWe⟩ : ∃ W, W = (w.alloc (.cells #[.slice oaf p.fs.length capf, .slice oac p.cs.length capc] 35)).alloc (.cells #[.slice oag q.fs.length capg, .slice oad q.cs.length capd] 35) := ⟨_, rfl⟩
  have hb : Below w.heap.size w W := by rw [hWe]; exact (alloc_below _ _).alloc (by simp) _
  have hx0 : W.heap[w.heap.size]? = some (.cells #[.slice oaf p.fs.length capf, .slice oac p.cs.length capc] 35) := by
    rw [hWe, heap_alloc_old _ _ (by simp), heap_alloc_new]
  have hx1 : W.heap[w.heap.size + 1]? = some (.cells #[.slice oag q.fs.length capg, .slice oad q.cs.length capd] 35) := by
    have := heap_alloc_new (w.alloc (.cells #[.slice oaf p.fs.length capf, .slice oac p.cs.length capc] 35)) (.cells #[.slice oag q.fs.length capg, .slice oad q.cs.length capd] 35)
    rw [hWe]
    simpa using this
  have HT := Lib.hid hT
  have HW := Lib.hid hW
  have HNP := Lib.hid hNp
  have HNQ := Lib.hid hNq
  clear hT hW hNp hNq hfv fv
  go_enter Tryd.func9, Tryd.ntmps9
  go_wp2_with fail
  rw [← hWe]
  clear hWe
  refine (works_any W (HT.out.below hb (by omega)) (HW.out.below hb h4) (Nat.le_trans h4 hb.size)).mono ?_
  rintro e w1 ⟨rfl, hb1⟩
  replace hx0 := keepB hx0 hb1
  replace hx1 := keepB hx1 hb1
  have B1 : Below w.heap.size w w1 := hb.trans (hb1.mono hb.size)
  clear hb hb1
  have hc0 : ∀ w', Below w1.heap.size w1 w' → w'.cell? ⟨w.heap.size, 0, none⟩ = some (.slice oaf p.fs.length capf) ∧ w'.cell? ⟨w.heap.size, 1, none⟩ = some (.slice oac p.cs.length capc) ∧ w'.cell? ⟨w.heap.size + 1, 0, none⟩ = some (.slice oag q.fs.length capg) ∧ w'.cell? ⟨w.heap.size + 1, 1, none⟩ = some (.slice oad q.cs.length capd) := fun w' h => by
    have e0 := keepB hx0 h
    have e1 := keepB hx1 h
    simp [World.cell?, e0, e1]
  replace hc0 := Lib.hid hc0
  clear hx0 hx1
  obtain ⟨z0, z1, z2, z3⟩ := hc0.out w1 (Below.refl _ _)
  go_wp2_with fail
  refine (over_any w1 _ _ p (HP.out.below B1)).mono ?_
  rintro e w2 ⟨⟨b1, rfl, hs1⟩, hb2⟩
  have B2 : Below w1.heap.size w1 w2 := hb2
  replace hs1 := Lib.hid hs1
  clear z0 z1 z2 z3 hb2
  obtain ⟨z0, z1, z2, z3⟩ := hc0.out w2 B2
  have hc := over_any w2 _ _ q (HQ.out.below (w' := w2) ((B1.trans (B2.mono B1.size))))
  go_wp2_with fail
  refine hc.mono ?_
  clear hc
  rintro e w3 ⟨⟨b2, rfl, hs2⟩, hb3⟩
  have B3 : Below w1.heap.size w1 w3 := B2.trans (hb3.mono B2.size)
  replace hs2 := Lib.hid hs2
  clear z0 z1 z2 z3 hb3 B2
  obtain ⟨z0, z1, z2, z3⟩ := hc0.out w3 B3
  have BW3 : Below w.heap.size w w3 := B1.trans (B3.mono B1.size)
  cases b1 with
  | true =>
    go_wp2_with fail
    go_quiet (fail)
    go_wp2
    go_returns
    exact ⟨rfl, ⟨BW3.os, BW3.tape, BW3.output, BW3.size, BW3.block⟩⟩
  | false =>
  cases b2 with
  | true =>
    go_wp2_with fail
    go_quiet (fail)
    go_wp2
    go_returns
    exact ⟨rfl, ⟨BW3.os, BW3.tape, BW3.output, BW3.size, BW3.block⟩⟩
  | false =>
  have S1 := Lib.hid (hs1.out rfl)
  have S2 := Lib.hid (hs2.out rfl)
  clear hs1 hs2
  have hgo := Lib.hid (show ∀ w', Below w1.heap.size w1 w' → Below w.heap.size w w' ∧ PgV w' (.slice oaf p.fs.length capf) (.slice oac p.cs.length capc) p ∧ PgV w' (.slice oag q.fs.length capg) (.slice oad q.cs.length capd) q ∧ PowAt w' ∧ TabAt w' ∧ 4 ≤ w'.heap.size from fun w' h => by
    have hb := B1.trans (h.mono B1.size)
    exact ⟨hb, HP.out.below hb, HQ.out.below hb, HW.out.below hb h4, HT.out.below hb (by omega), Nat.le_trans h4 hb.size⟩)
  go_wp2_with fail
  go_region_held3 (fun w' => w'.cell? ⟨w.heap.size, 0, none⟩ = some (.slice oaf p.fs.length capf) ∧ w'.cell? ⟨w.heap.size, 1, none⟩ = some (.slice oac p.cs.length capc) ∧ w'.cell? ⟨w.heap.size + 1, 0, none⟩ = some (.slice oag q.fs.length capg) ∧ w'.cell? ⟨w.heap.size + 1, 1, none⟩ = some (.slice oad q.cs.length capd)) (first | (refine ⟨?_, ?_, ?_, ?_⟩ <;> assumption) | go_keep)
    (first
      | (go_at_call_of 23 (Value.slice oaf p.fs.length capf); refine (text_any _ _ _ p (hgo.out _ (by exact B3.drew)).2.1 S1.out HNP.out (hgo.out _ (by exact B3.drew)).2.2.2.1 (hgo.out _ (by exact B3.drew)).2.2.2.2.2).mono ?_; rintro e w4 ⟨rfl, hb4⟩; have B4 : Below w1.heap.size w1 w4 := B3.trans ((below_undrew hb4).mono B3.size); obtain ⟨y0, y1, y2, y3⟩ := hc0.out w4 B4; clear hb4; replace B4 := Lib.hid B4)
      | (go_at_call_of 23 (Value.slice oag q.fs.length capg); refine (text_any _ _ _ q (hgo.out _ B4.out).2.2.1 S2.out HNQ.out (hgo.out _ B4.out).2.2.2.1 (hgo.out _ B4.out).2.2.2.2.2).mono ?_; rintro e w5 ⟨rfl, hb5⟩; have B5 : Below w1.heap.size w1 w5 := B4.out.trans (hb5.mono B4.out.size); obtain ⟨v0, v1, v2, v3⟩ := hc0.out w5 B5; clear hb5; replace B5 := Lib.hid B5))
  have BW5 := Lib.hid (hgo.out w5 B5.out).1
  clear z0 z1 z2 z3 y0 y1 y2 y3 B4
  by_cases htx : textB p = textB q
  · have tt : (textB p == textB q) = true := by simp [htx]
    have hpq : p = q := textB_inj htx
    have HPQ := Lib.hid hpq
    clear hpq htx
    rw [tt]
    clear tt
    go_wp2_with fail
    go_region_held3 (fun w' => w'.cell? ⟨w.heap.size, 0, none⟩ = some (.slice oaf p.fs.length capf) ∧ w'.cell? ⟨w.heap.size, 1, none⟩ = some (.slice oac p.cs.length capc) ∧ w'.cell? ⟨w.heap.size + 1, 0, none⟩ = some (.slice oag q.fs.length capg) ∧ w'.cell? ⟨w.heap.size + 1, 1, none⟩ = some (.slice oad q.cs.length capd)) (first | (refine ⟨?_, ?_, ?_, ?_⟩ <;> assumption) | go_keep)
      (first
        | (go_at_call_of 21 (Value.slice oaf p.fs.length capf); refine (valid_any _ _ _ p (hgo.out _ (by exact B5.out.drew)).2.1 S1.out.lab (hgo.out _ (by exact B5.out.drew)).2.2.2.2.1).mono ?_; rintro e w6 ⟨bp, rfl, hbp, hb6⟩; have B6 : Below w1.heap.size w1 w6 := B5.out.trans ((below_undrew hb6).mono B5.out.size); obtain ⟨y0, y1, y2, y3⟩ := hc0.out w6 B6; clear hb6; replace B6 := Lib.hid B6; replace hbp := Lib.hid hbp)
        | (go_at_call_of 21 (Value.slice oag q.fs.length capg); refine (valid_any _ _ _ q (hgo.out _ B6.out).2.2.1 S2.out.lab (hgo.out _ B6.out).2.2.2.2.1).mono ?_; rintro e w7 ⟨bq, rfl, hbq, hb7⟩; have B7 : Below w1.heap.size w1 w7 := B6.out.trans (hb7.mono B6.out.size); obtain ⟨x0, x1, x2, x3⟩ := hc0.out w7 B7; clear hb7; replace B7 := Lib.hid B7; replace hbq := Lib.hid hbq))
    have BW7 := Lib.hid (hgo.out w7 B7.out).1
    have hbb : bp = bq := by
      have h1 := hbp.out
      have h2 := hbq.out
      rw [HPQ.out] at h1
      cases bp <;> cases bq <;> simp_all
    subst hbb
    clear v0 v1 v2 v3 y0 y1 y2 y3 x0 x1 x2 x3
    cases bp
    all_goals
      go_wp2
      go_ret
      exact ⟨rfl, BW7.out⟩
  · have tt : (textB p == textB q) = false := by simp [htx]
    rw [tt]
    clear tt htx
    go_wp2
    go_returns
    exact ⟨rfl, BW5.out⟩

set_option maxRecDepth 100000 in
theorem codeTextOnce_lifted (os : Os) (started : os.Started) (H : Type) (enc : TypeId × Value → H) :
    ReturnsInHanded {} Tryd.checked os 9 .any (fun w args => (Rows.codeTextOnceSpec.pre enc Tryd.prog Tryd.f9 [] false w args ∧ laidMetH Tryd.prog laid4 w) ∧ sizedMet enc Tryd.prog Tryd.f9 (OpenSpec.ofChange Rows.codeTextOnceSpec) false w args)
      (Rows.codeTextOnceSpec.post enc Tryd.prog Tryd.f9 false true false false) := by
  refine returnsInHanded_of_change_and (C := Tryd.checked) (X := fun w _ => laidMetH Tryd.prog laid4 w) (fun _ _ _ hh h => h.of_heap hh) own started (by kernel_rfl) Tryd.func9
    (ChangeSpec.witness_shaped (enc := enc) (C := Tryd.checked) (os := os) (X := fun w _ => laidMetH Tryd.prog laid4 w) false (World.doorLaid Tryd.prog 400 os) #[.agg #[.slice none 0 0, .slice none 0 0], .agg #[.slice none 0 0, .slice none 0 0]] 8 rfl (World.shaped_of_RefB (by kernel_rfl) (by kernel_rfl)) (by kernel_rfl) (by kernel_rfl) (by kernel_rfl) (door_met os _)) ?_
  intro W base args ds gs before hval0 hW _ _ hL _
  have hval : ∀ (j : Nat) t v, Tryd.f9.params[j]? = some t → args[j]? = some v → Value.okWide Tryd.prog W .any base t v := hval0
  have hW' := hW
  obtain ⟨p, q, hA0, hV, rfl, hfz, hnd⟩ := hW
  have hA : DataW.TrodAll enc Tryd.prog W 0 (fun _ => true) true Tryd.f9.params.toList args.toList ds p := hA0
  rw [Tryd.params9] at hA hval
  obtain ⟨v0, vs0, d0, ds0, p0, q0, hargs, rfl, rfl, h0, r0⟩ := trodAll_cons hA
  obtain ⟨v1, vs1, d1, ds1, p1, q1, rfl, rfl, rfl, h1, r1⟩ := trodAll_cons r0
  obtain ⟨rfl, rfl, rfl⟩ := trodAll_nil r1
  obtain rfl : args = #[v0, v1] := by cases args; simp_all
  obtain ⟨rfl, rfl⟩ := trodVars_none hV
  obtain ⟨fv, cv, pp, rfl, hP, hNp⟩ := open_pg (hval 0 35 v0 rfl rfl) h0
  obtain ⟨gv, dv, qq, rfl, hQ, hNq⟩ := open_pg (hval 1 35 v1 rfl rfl) h1
  obtain ⟨hT, hPw, h4⟩ := of_laid hL
  refine (codeTextOnce_walk W fv cv gv dv pp qq hP hQ hNp hNq hT hPw h4).mono fun e W' ⟨he, hb⟩ => ?_
  subst he
  exact ⟨_, rfl, law_post rfl rfl (by kernel_rfl) rfl hW' hb⟩

set_option maxRecDepth 100000 in
theorem codeTextOnce_holds : Rows.CodeTextOnceSaid :=
  OpenClaim.holds_of_wide 9 Tryd.f9 rfl rfl rfl rfl rfl rfl rfl ⟨rfl, rfl, rfl, rfl, rfl⟩ rfl rfl rfl rfl rfl (by kernel_rfl) Tryd.func9 (by kernel_rfl)
    (of_decide_eq_true (by kernel_rfl)) (by unfold Func.isWrapper; first | (rw [if_pos (by decide +kernel)]; kernel_rfl) | (rw [if_neg (by decide +kernel)]; exact ⟨rfl, rfl⟩))
    (fun os started H enc _ => codeTextOnce_lifted os started H enc)

set_option maxRecDepth 100000 in
theorem codeTextOnce_card : Rows.CodeTextOnceCardSaid :=
  Claim7.holds_tied_plain_at .later [] [.data, .data, .data, .data] true (true, "e0d625a2e69adf01b107668993ea5ba20a030b330d5d389efb3f1299f4f792e2") false
    codeTextOnce_holds (fun _ h => by cases h) (by kernel_rfl) (fun _ h => by cases h) codeTextOnce_row_tie rfl ⟨rfl, rfl⟩ (by kernel_rfl) rfl
    (fun f fn hf hfn => by
      obtain rfl : f = 9 := Option.some.inj ((show Tryd.prog.funcNamed "cocoon/cocoonlaw02.CodeTextOnce" = some 9 by kernel_rfl).symm.trans hf) |>.symm
      obtain rfl : fn = Tryd.f9 := (Option.some.inj (Tryd.func9.symm.trans hfn)).symm
      exact ⟨by kernel_rfl, fun j t ht => by
        rw [Tryd.params9] at ht
        have hm : t ∈ [35, 35] := by simpa using Array.mem_of_getElem? ht
        have hall : ([35, 35].all fun u => !Tryd.prog.wantsStandIn u) = true := by kernel_rfl
        exact (show Tryd.prog.wantsStandIn t = false by simpa using List.all_eq_true.1 hall t hm)⟩)
    (by kernel_rfl)
end Go.Proofs.YtobhfmliaecbjaaDoor
