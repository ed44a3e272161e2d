/-
  CodeReads answers true for every input. No conditions.
-/
import Derived.Test.YtobhfmliaecbjaaDoorWorks
import Derived.Test.YtobhfmliaecbjaaDoorRefS
import Derived.Test.YtobhfmliaecbjaaDoorMet
import Derived.Deep.RegionHeld3
import Derived.Test.YtobhfmliaecbjaaDoorCards
import Derived.Test.YtobhfmliaecbjaaDoorTie
import Derived.SevenTiedAt
namespace Go.Proofs.YtobhfmliaecbjaaDoor
open Go.RowKit Go.ChangeShapes Go.WideShapes Go.ChangeAt

theorem writesV_cases (o : Option Int) : ∃ a b, writesV o = .tuple #[.int .i64 a, .bool b] := by
  cases o with
  | none => exact ⟨0, false, rfl⟩
  | some r => exact ⟨r, true, rfl⟩

set_option maxRecDepth 100000 in
set_option maxHeartbeats 4000000 in
theorem codeReads_walk (w : World) (x : In) (lv : Value) (hlv : IntsV w lv x.l) (hT : TabAt w) (hW : PowAt w) (h4 : 4 ≤ w.heap.size) :
    Calls Tryd.prog 3 #[x.val lv] w fun e w' => e = .returned (.bool true) ∧ Below w.heap.size w w' := by
  unfold In.val
  obtain ⟨oal, capl, rfl⟩ : ∃ oal capl, lv = .slice oal x.l.length capl := by obtain ⟨oal, capl, _, _, h, _⟩ := hlv; exact ⟨oal, capl, h⟩
  clear hlv
  generalize x.l.length = len
  obtain ⟨W, hWe⟩ : ∃ W, W = w.alloc (.cells #[.int .i64 x.op, .int .i64 x.a, .int .i64 x.b, .int .i64 x.c, .slice oal len capl] 25) := ⟨_, rfl⟩
  have hb : Below w.heap.size w W := by rw [hWe]; exact alloc_below _ _
  have hx0 : W.heap[w.heap.size]? = some (.cells #[.int .i64 x.op, .int .i64 x.a, .int .i64 x.b, .int .i64 x.c, .slice oal len capl] 25) := by rw [hWe, heap_alloc_new]
  have HT := Lib.hid hT
  have HW := Lib.hid hW
  clear hT hW
  go_enter Tryd.func3, Tryd.ntmps3
  go_wp2_with fail
  rw [← hWe]
  clear hWe
  refine (works_any W (HT.out.below hb (by omega)) (HW.out.below hb h4) (Nat.le_trans h4 hb.size)).mono ?_
  rintro e w1 ⟨rfl, hb1⟩
  replace hx0 := keepB hx0 hb1
  have B1 : Below w.heap.size w w1 := hb.trans (hb1.mono hb.size)
  clear hb hb1
  have hc0 := Lib.hid (show ∀ w', Below w1.heap.size w1 w' → w'.cell? ⟨w.heap.size, 0, none⟩ = some (.int .i64 x.op) ∧ w'.cell? ⟨w.heap.size, 1, none⟩ = some (.int .i64 x.a) ∧ w'.cell? ⟨w.heap.size, 2, none⟩ = some (.int .i64 x.b) ∧ w'.cell? ⟨w.heap.size, 3, none⟩ = some (.int .i64 x.c) ∧ w'.cell? ⟨w.heap.size, 4, none⟩ = some (.slice oal len capl) from fun w' h => by
    have e0 := keepB hx0 h
    simp [World.cell?, e0])
  have hgo := Lib.hid (show ∀ w', Below w1.heap.size w1 w' → Below w.heap.size w w' ∧ TabAt w' from fun w' h => by
    have hb := B1.trans (h.mono B1.size)
    exact ⟨hb, HT.out.below hb (by omega)⟩)
  clear hx0
  obtain ⟨z0, z1, z2, z3, z4⟩ := hc0.out w1 (Below.refl _ _)
  have hc := writes_any x (.slice oal len capl) w1 (hgo.out w1 (Below.refl _ _)).2
  unfold In.val at hc
  go_wp2_with fail
  refine hc.mono ?_
  clear hc
  rintro e w2 ⟨rfl, B2⟩
  obtain ⟨wa, wb, hwv⟩ := writesV_cases (writesO x)
  rw [hwv]
  clear z0 z1 z2 z3 z4
  obtain ⟨z0, z1, z2, z3, z4⟩ := hc0.out w2 B2
  have hc := refWrites_any x (.slice oal len capl) w2
  rw [hwv] at hc
  unfold In.val at hc
  replace hwv := Lib.hid hwv
  go_wp2_with fail
  refine hc.mono ?_
  clear hc
  rintro e w3 ⟨rfl, hb3⟩
  have B3 := B2.trans (hb3.mono B2.size)
  clear z0 z1 z2 z3 z4 hb3
  obtain ⟨z0, z1, z2, z3, z4⟩ := hc0.out w3 B3
  go_wp2_with fail
  go_region_held3 (fun w' => w'.cell? ⟨w.heap.size, 0, none⟩ = some (.int .i64 x.op) ∧ w'.cell? ⟨w.heap.size, 1, none⟩ = some (.int .i64 x.a) ∧ w'.cell? ⟨w.heap.size, 2, none⟩ = some (.int .i64 x.b) ∧ w'.cell? ⟨w.heap.size, 3, none⟩ = some (.int .i64 x.c) ∧ w'.cell? ⟨w.heap.size, 4, none⟩ = some (.slice oal len capl)) (first | (refine ⟨?_, ?_, ?_, ?_, ?_⟩ <;> assumption) | go_keep)
    (first
      | (go_at_call 14; refine (reads_any x (.slice oal len capl) _ (hgo.out _ (by exact B3.drew)).2).mono ?_; rintro e w4 ⟨v4, rfl, hv4, hb4⟩; have B4 : Below w1.heap.size w1 w4 := B3.trans ((below_undrew hb4).mono B3.size); obtain ⟨y0, y1, y2, y3, y4⟩ := hc0.out w4 B4; clear hb4; replace B4 := Lib.hid B4; replace hv4 := Lib.hid hv4)
      | (go_at_call 15; refine (refReads_any x (.slice oal len capl) w4).mono ?_; rintro e w5 ⟨v5, rfl, hv5, hb5⟩; have B5 : Below w1.heap.size w1 w5 := B4.out.trans (hb5.mono B4.out.size); have hv45 := Lib.hid (hv4.out.below hb5); obtain ⟨u0, u1, u2, u3, u4⟩ := hc0.out w5 B5; clear hb5; replace B5 := Lib.hid B5; replace hv5 := Lib.hid hv5)
      | (go_at_call 13; refine (row_any w5 v4 v5 _ _ hv45.out hv5.out).mono ?_; rintro e w6 ⟨rfl, hb6⟩; have B6 : Below w1.heap.size w1 w6 := B5.out.trans (hb6.mono B5.out.size); obtain ⟨t0, t1, t2, t3, t4⟩ := hc0.out w6 B6; clear hb6; replace B6 := Lib.hid B6))
  clear z0 z1 z2 z3 z4 y0 y1 y2 y3 y4 u0 u1 u2 u3 u4 B4 B5 hv4 hv5 hv45
  have hq : (wa == wa) = true := by simp
  have hq2 : (wb == wb) = true := by simp
  go_wp2_with fail
  go_region_held3 (fun w' => w'.cell? ⟨w.heap.size, 0, none⟩ = some (.int .i64 x.op) ∧ w'.cell? ⟨w.heap.size, 1, none⟩ = some (.int .i64 x.a) ∧ w'.cell? ⟨w.heap.size, 2, none⟩ = some (.int .i64 x.b) ∧ w'.cell? ⟨w.heap.size, 3, none⟩ = some (.int .i64 x.c) ∧ w'.cell? ⟨w.heap.size, 4, none⟩ = some (.slice oal len capl)) (first | (refine ⟨?_, ?_, ?_, ?_, ?_⟩ <;> assumption) | go_keep)
    (first
      | (go_at_call 16; refine (falls_any x (.slice oal len capl) _).mono ?_; rintro e w7 ⟨rfl, hb7⟩; have B7 : Below w1.heap.size w1 w7 := B6.out.trans ((below_undrew hb7).mono B6.out.size); obtain ⟨y0, y1, y2, y3, y4⟩ := hc0.out w7 B7; clear hb7; replace B7 := Lib.hid B7)
      | (go_at_call 17; refine (refFalls_any x (.slice oal len capl) w7).mono ?_; rintro e w8 ⟨rfl, hb8⟩; have B8 : Below w1.heap.size w1 w8 := B7.out.trans (hb8.mono B7.out.size); obtain ⟨u0, u1, u2, u3, u4⟩ := hc0.out w8 B8; clear hb8; replace B8 := Lib.hid B8))
  have BW := Lib.hid (hgo.out w8 B8.out).1
  go_wp2
  go_ret
  exact ⟨by simp, BW.out⟩

set_option maxRecDepth 100000 in
theorem open_ins {H : Type} {enc : TypeId × Value → H} {W : World} {b0 : Nat} {v : Value} {d : DataW H} {p : List MemPlace} (hv : Value.okWide Tryd.prog W .any b0 25 v) (h : DataW.Trod enc Tryd.prog W 0 (fun _ => true) true 25 v d p) :
    ∃ x lv, v = In.val x lv ∧ IntsV W lv x.l := by
  obtain ⟨cs, rfl, hsz⟩ := okWide_struct Tryd.underlying25 hv
  obtain ⟨fuel, hf⟩ := h
  obtain ⟨x, lv, hc, hI, _⟩ := ins_of (by show cs.toList.length = 5; rw [Array.length_toList, hsz]; kernel_rfl) hf
  refine ⟨x, lv, ?_, hI⟩
  have : cs.toList = [.int .i64 x.op, .int .i64 x.a, .int .i64 x.b, .int .i64 x.c, lv] := hc
  unfold In.val
  rw [← Array.toList_inj.1 (show cs.toList = (#[.int .i64 x.op, .int .i64 x.a, .int .i64 x.b, .int .i64 x.c, lv] : Array Value).toList from this)]
set_option maxRecDepth 100000 in
theorem codeReads_lifted (os : Os) (started : os.Started) (H : Type) (enc : TypeId × Value → H) :
    ReturnsInHanded {} Tryd.checked os 3 .any (fun w args => (Rows.codeReadsSpec.pre enc Tryd.prog Tryd.f3 [] false w args ∧ laidMetH Tryd.prog laid4 w) ∧ sizedMet enc Tryd.prog Tryd.f3 (OpenSpec.ofChange Rows.codeReadsSpec) false w args)
      (Rows.codeReadsSpec.post enc Tryd.prog Tryd.f3 false true false false) := by
  refine returnsInHanded_of_change_and (C := Tryd.checked) (X := fun w _ => laidMetH Tryd.prog laid4 w) (fun _ _ _ hh h => h.of_heap hh) own started (by kernel_rfl) Tryd.func3
    (ChangeSpec.witness_shaped (enc := enc) (C := Tryd.checked) (os := os) (X := fun w _ => laidMetH Tryd.prog laid4 w) false (World.doorLaid Tryd.prog 400 os) #[.agg #[.int .i64 0, .int .i64 0, .int .i64 0, .int .i64 0, .slice none 0 0]] 8 rfl (World.shaped_of_RefB (by kernel_rfl) (by kernel_rfl)) (by kernel_rfl) (by kernel_rfl) (by kernel_rfl) (door_met os _)) ?_
  intro W base args ds gs before hval0 hW _ _ hL _
  have hval : ∀ (j : Nat) t v, Tryd.f3.params[j]? = some t → args[j]? = some v → Value.okWide Tryd.prog W .any base t v := hval0
  have hW' := hW
  obtain ⟨p, q, hA0, hV, rfl, hfz, hnd⟩ := hW
  have hA : DataW.TrodAll enc Tryd.prog W 0 (fun _ => true) true Tryd.f3.params.toList args.toList ds p := hA0
  rw [Tryd.params3] at hA hval
  obtain ⟨v0, vs0, d0, ds0, p0, q0, hargs, rfl, rfl, h0, r0⟩ := trodAll_cons hA
  obtain ⟨rfl, rfl, rfl⟩ := trodAll_nil r0
  obtain rfl : args = #[v0] := by cases args; simp_all
  obtain ⟨rfl, rfl⟩ := trodVars_none hV
  obtain ⟨x, lv, rfl, hlv⟩ := open_ins (hval 0 25 v0 rfl rfl) h0
  obtain ⟨hT, hPw, h4⟩ := of_laid hL
  refine (codeReads_walk W x lv hlv hT hPw h4).mono fun e W' ⟨he, hb⟩ => ?_
  subst he
  exact ⟨_, rfl, law_post rfl rfl (by kernel_rfl) rfl hW' hb⟩

set_option maxRecDepth 100000 in
theorem codeReads_holds : Rows.CodeReadsSaid :=
  OpenClaim.holds_of_wide 3 Tryd.f3 rfl rfl rfl rfl rfl rfl rfl ⟨rfl, rfl, rfl, rfl, rfl⟩ rfl rfl rfl rfl rfl (by kernel_rfl) Tryd.func3 (by kernel_rfl)
    (of_decide_eq_true (by kernel_rfl)) (by unfold Func.isWrapper; first | (rw [if_pos (by decide +kernel)]; kernel_rfl) | (rw [if_neg (by decide +kernel)]; exact ⟨rfl, rfl⟩))
    (fun os started H enc _ => codeReads_lifted os started H enc)

set_option maxRecDepth 100000 in
theorem codeReads_card : Rows.CodeReadsCardSaid :=
  Claim7.holds_tied_plain_at .later [] [.data, .data, .data, .data] true (true, "e0d625a2e69adf01b107668993ea5ba20a030b330d5d389efb3f1299f4f792e2") false
    codeReads_holds (fun _ h => by cases h) (by kernel_rfl) (fun _ h => by cases h) codeReads_row_tie rfl ⟨rfl, rfl⟩ (by kernel_rfl) rfl
    (fun f fn hf hfn => by
      obtain rfl : f = 3 := Option.some.inj ((show Tryd.prog.funcNamed "cocoon/cocoonlaw02.CodeReads" = some 3 by kernel_rfl).symm.trans hf) |>.symm
      obtain rfl : fn = Tryd.f3 := (Option.some.inj (Tryd.func3.symm.trans hfn)).symm
      exact ⟨by kernel_rfl, fun j t ht => by
        rw [Tryd.params3] at ht
        have hm : t ∈ [25] := by simpa using Array.mem_of_getElem? ht
        have hall : ([25].all fun u => !Tryd.prog.wantsStandIn u) = true := by kernel_rfl
        exact (show Tryd.prog.wantsStandIn t = false by simpa using List.all_eq_true.1 hall t hm)⟩)
    (by kernel_rfl)

end Go.Proofs.YtobhfmliaecbjaaDoor
