/-
  LexisLexes answers true for every input. No conditions.
-/
import Derived.Test.YthhkndnmeafanaaDoorLRefM
import Derived.Test.YthhkndnmeafanaaDoorLWorks
import Derived.Test.YthhkndnmeafanaaDoorLClose
import Derived.Test.YthhkndnmeafanaaDoorCards
import Derived.Test.YthhkndnmeafanaaDoorTie
import Derived.SevenTiedAt
import Derived.ChangeMaps5
namespace Go.Proofs.YthhkndnmeafanaaDoor
open Go.RowKit Go.ChangeShapes Go.WideShapes Go.ChangeAt

set_option maxRecDepth 100000 in
set_option maxHeartbeats 4000000 in
theorem same_any (w : World) (g h cg ch n : Nat) (ts : List Tok) (hn : n = ts.length) (hn2 : n ≤ 1000000) (hg : ToksAt w g ts) (hh : ToksAt w h ts) : Calls Tryd.prog 12 #[.slice (some ⟨g, 0, none⟩) n cg, .slice (some ⟨h, 0, none⟩) n ch] w fun e w' => e = .returned (.bool true) ∧ Below w.heap.size w w' := by
  have HG := Lib.hid hg
  have HN := Lib.hid hn
  have HH := Lib.hid hh
  clear hg hh hn
  go_enter Tryd.func12, Tryd.ntmps12
  go_wp2_with fail
  go_loopw [5] (fun u wr => ∃ j : Nat, j ≤ n ∧ u = .int .i64 j ∧ Below w.heap.size w wr) (fun u _ => n - (intOf u).toNat)
  case atStart => exact ⟨0, by omega, rfl, Below.refl _ _⟩
  case round =>
    obtain ⟨j, hj, rfl, hb⟩ := hrel
    by_cases hjl : j < n
    · have t1 : decide ((j : Int) < n) = true := by rw [decide_eq_true_eq]; omega
      obtain ⟨t, ht⟩ : ∃ t, ts[j]? = some t := ⟨_, List.getElem?_eq_getElem (show j < ts.length by rw [← HN.out]; exact hjl)⟩
      obtain ⟨x0, x1, x2, x3⟩ := (HG.out.below hb).2 j t ht
      obtain ⟨y0, y1, y2, y3⟩ := (HH.out.below hb).2 j t ht
      have HB := Lib.hid hb
      clear hb ht
      go_wp2_with fail
      go_region
      go_wp2_with fail
      go_roundw
      case rel => exact ⟨j + 1, by omega, by go_num, HB.out.drew⟩
      case measure => simp [intOf]; omega
    · have t1 : decide ((j : Int) < n) = false := by rw [decide_eq_false_iff_not]; omega
      go_wp2
      go_ret
      exact ⟨rfl, hb⟩

theorem same_nil (w : World) : Calls Tryd.prog 12 #[.slice none 0 0, .slice none 0 0] w fun e w' => e = .returned (.bool true) ∧ w' = w := by
  go_enter Tryd.func12, Tryd.ntmps12
  go_wp2_with fail
  refine wp_loop_rounds 1 ?_
  rw [rounds_succ]
  go_wp2
  go_ret
  exact ⟨rfl, rfl⟩

theorem lexes_long (s : ByteArray) (w : World) (hV : Vars w) (h1 : 2000 < s.size) (h2 : s.size ≤ 65536) : Calls Tryd.prog 3 #[.string s] w fun e w' => e = .returned (.bool true) ∧ Below w.heap.size w w' := by
  have hwk := Lib.hid (works_any w hV)
  have t0 : decide ((s.size : Int) > 2000) = true := by rw [decide_eq_true_eq]; omega
  have t1 : decide ((s.size : Int) ≤ 65536) = true := by rw [decide_eq_true_eq]; omega
  clear hV
  go_enter Tryd.func3, Tryd.ntmps3
  go_wp2_with fail
  refine hwk.out.mono ?_
  rintro e w1 ⟨rfl, hb1⟩
  have HB1 := Lib.hid hb1
  clear hb1
  go_wp2
  go_ret
  exact ⟨rfl, HB1.out⟩

theorem lexT_count {p : Nat} {l : List UInt8} {ts : List Tok} (h : lexT p l = .good ts) : ts.length ≤ l.length := by
  rcases lexT_good h with ⟨rfl, _⟩ | ⟨t, us, rfl, _, h3, h4, _, _, _, h5⟩
  · simp
  · have := lexT_count h5
    simp only [List.length_drop] at this
    simp only [List.length_cons]
    omega
termination_by l.length
decreasing_by simp only [List.length_drop]; omega

theorem LexOut.shape {B : Nat} {s : ByteArray} {e : Ending} {w : World} (h : LexOut B s e w) : (∃ er q, lexL (bs s) = .bad er q ∧ e = .returned (.tuple #[.slice none 0 0, .int .i64 er, .int .i64 q])) ∨
    (∃ ts n g cap, lexL (bs s) = .good ts ∧ n = (ts ++ [endTok s]).length ∧ n ≤ 1000000 ∧ e = .returned (.tuple #[.slice (some ⟨g, 0, none⟩) n cap, .int .i64 0, .int .i64 0]) ∧ ToksAt w g (ts ++ [endTok s])) := by
  rw [LexOut] at h
  cases hL : lexL (bs s) with
  | bad er q => rw [hL] at h; exact .inl ⟨er, q, rfl, h⟩
  | good ts =>
    rw [hL] at h
    obtain ⟨g, cap, he, _, hT⟩ := h
    refine .inr ⟨ts, ts.length + 1, g, cap, rfl, by simp, ?_, he, hT⟩
    by_cases hs : (bs s).length ≤ 65536
    · rw [lexL, if_pos hs] at hL
      have := lexT_count hL
      omega
    · rw [lexL, if_neg hs] at hL
      cases hL

set_option maxRecDepth 100000 in
set_option maxHeartbeats 4000000 in
theorem lexes_bad (s : ByteArray) (w : World) (hV : Vars w) (hlong : ¬ (2000 < s.size ∧ s.size ≤ 65536)) (er0 : Int) (q0 : Nat) (hL0 : lexL (bs s) = .bad er0 q0) : Calls Tryd.prog 3 #[.string s] w fun e w' => e = .returned (.bool true) ∧ Below w.heap.size w w' := by
  replace hL0 := Lib.hid hL0
  have hwk := Lib.hid (works_any w hV)
  have HV := Lib.hid hV
  have hla := Lib.hid (lex_any s)
  have hlb := Lib.hid (rlex_any s)
  have hbig : decide ((s.size : Int) > 2000) = false ∨ (decide ((s.size : Int) > 2000) = true ∧ decide ((s.size : Int) ≤ 65536) = false) := by
    by_cases h : s.size ≤ 2000
    · left; rw [decide_eq_false_iff_not]; omega
    · right; rw [decide_eq_true_eq, decide_eq_false_iff_not]; omega
  clear hV hlong
  rcases hbig with t0 | ⟨t0, t1⟩
  all_goals
    go_enter Tryd.func3, Tryd.ntmps3
    go_wp2_with fail
    refine hwk.out.mono ?_
    rintro e w1 ⟨rfl, hb1⟩
    have HB1 := Lib.hid hb1
    have HV1 := Lib.hid (HV.out.b hb1)
    clear hb1
    go_wp2_with fail
    refine (hla.out _ HV1.out).mono ?_
    rintro e w2 ⟨ho, hb2⟩
    have HB2 := Lib.hid (HB1.out.trans (hb2.mono HB1.out.size))
    clear hb2
    rcases ho.shape with ⟨er, q, hL, rfl⟩ | ⟨ts, n, g, cap, hL, hn, hn2, rfl, hT⟩
    · have HL := Lib.hid hL
      clear ho hL
      go_wp2_with fail
      refine (hlb.out _).mono ?_
      rintro e w3 ⟨ho, hb3⟩
      have HB3 := Lib.hid (HB2.out.trans (hb3.mono HB2.out.size))
      rw [LexOut, HL.out] at ho
      subst ho
      clear hb3
      go_wp2_with (go_at_call 12; refine (same_nil _).mono ?_; rintro e w4 ⟨rfl, rfl⟩)
      go_ret
      exact ⟨rfl, HB3.out⟩
    · rw [hL0.out] at hL
      cases hL

set_option maxRecDepth 100000 in
set_option maxHeartbeats 4000000 in
theorem lexes_good (s : ByteArray) (w : World) (hV : Vars w) (hlong : ¬ (2000 < s.size ∧ s.size ≤ 65536)) (ts0 : List Tok) (hL0 : lexL (bs s) = .good ts0) : Calls Tryd.prog 3 #[.string s] w fun e w' => e = .returned (.bool true) ∧ Below w.heap.size w w' := by
  replace hL0 := Lib.hid hL0
  have hwk := Lib.hid (works_any w hV)
  have HV := Lib.hid hV
  have hla := Lib.hid (lex_any s)
  have hlb := Lib.hid (rlex_any s)
  have hbig : decide ((s.size : Int) > 2000) = false ∨ (decide ((s.size : Int) > 2000) = true ∧ decide ((s.size : Int) ≤ 65536) = false) := by
    by_cases h : s.size ≤ 2000
    · left; rw [decide_eq_false_iff_not]; omega
    · right; rw [decide_eq_true_eq, decide_eq_false_iff_not]; omega
  clear hV hlong
  rcases hbig with t0 | ⟨t0, t1⟩
  all_goals
    go_enter Tryd.func3, Tryd.ntmps3
    go_wp2_with fail
    refine hwk.out.mono ?_
    rintro e w1 ⟨rfl, hb1⟩
    have HB1 := Lib.hid hb1
    have HV1 := Lib.hid (HV.out.b hb1)
    clear hb1
    go_wp2_with fail
    refine (hla.out _ HV1.out).mono ?_
    rintro e w2 ⟨ho, hb2⟩
    have HB2 := Lib.hid (HB1.out.trans (hb2.mono HB1.out.size))
    clear hb2
    rcases ho.shape with ⟨er, q, hL, rfl⟩ | ⟨ts, n, g, cap, hL, hn, hn2, rfl, hT⟩
    · rw [hL0.out] at hL
      cases hL
    · have HL := Lib.hid hL
      have HT := Lib.hid hT
      have HN := Lib.hid hn
      clear ho hL hT hn
      go_wp2_with fail
      refine (hlb.out _).mono ?_
      rintro e w3 ⟨ho, hb3⟩
      have HB3 := Lib.hid (HB2.out.trans (hb3.mono HB2.out.size))
      have hT3 := HT.out.below hb3
      rcases ho.shape with ⟨er, q, hL, rfl⟩ | ⟨ts', n', g', cap', hL, hn', -, rfl, hT'⟩
      · rw [HL.out] at hL
        cases hL
      · rw [HL.out] at hL
        cases hL
        rw [← HN.out] at hn'
        subst hn'
        have hsm := Lib.hid (same_any w3 g g' cap cap' _ _ HN.out hn2 hT3 hT')
        clear ho hb3 hT3 hT'
        go_wp2_with (go_at_call 12; refine hsm.out.mono ?_; rintro e w4 ⟨rfl, hb4⟩; have HB4 := Lib.hid (HB3.out.trans (hb4.mono HB3.out.size)); clear hb4)
        go_ret
        exact ⟨rfl, HB4.out⟩

theorem lexisLexes_walk (s : ByteArray) (w : World) (hV : Vars w) : Calls Tryd.prog 3 #[.string s] w fun e w' => e = .returned (.bool true) ∧ Below w.heap.size w w' := by
  by_cases hlong : 2000 < s.size ∧ s.size ≤ 65536
  · exact lexes_long s w hV hlong.1 hlong.2
  · cases hL : lexL (bs s) with
    | bad er q => exact lexes_bad s w hV hlong er q hL
    | good ts => exact lexes_good s w hV hlong ts hL

set_option maxRecDepth 100000 in
theorem lexisLexes_lifted (os : Os) (started : os.Started) (H : Type) (enc : TypeId × Value → H) :
    ReturnsInHanded {} Tryd.checked os 3 .any (fun w args => (Rows.lexisLexesSpec.pre enc Tryd.prog Tryd.f3 [] false w args ∧ laidMetH Tryd.prog laid7 w) ∧ sizedMet enc Tryd.prog Tryd.f3 (OpenSpec.ofChange Rows.lexisLexesSpec) false w args)
      (Rows.lexisLexesSpec.post enc Tryd.prog Tryd.f3 false true false false) := by
  refine returnsInHanded_of_change_and (C := Tryd.checked) (X := fun w _ => laidMetH Tryd.prog laid7 w) (fun _ _ _ hh h => h.of_heap hh) own started (by kernel_rfl) Tryd.func3
    (ChangeSpec.witness_shaped (enc := enc) (C := Tryd.checked) (os := os) (X := fun w _ => laidMetH Tryd.prog laid7 w) false (World.doorLaid Tryd.prog 400 os) #[.string ⟨#[]⟩] 8 rfl (World.shaped_of_RefB (by kernel_rfl) (by kernel_rfl)) (by kernel_rfl) (by kernel_rfl) (by kernel_rfl) (door_met os _)) ?_
  intro W base args ds gs before hval0 hW _ _ hL _
  have hval : ∀ (j : Nat) t v, Tryd.f3.params[j]? = some t → args[j]? = some v → Value.okWide Tryd.prog W .any base t v := hval0
  have hW' := hW
  obtain ⟨p, q, hA0, hV, rfl, hfz, hnd⟩ := hW
  have hA : DataW.TrodAll enc Tryd.prog W 0 (fun _ => true) true Tryd.f3.params.toList args.toList ds p := hA0
  rw [Tryd.params3] at hA hval
  obtain ⟨v0, vs0, d0, ds0, p0, q0, hargs, rfl, rfl, h0, r0⟩ := trodAll_cons hA
  obtain ⟨rfl, rfl, rfl⟩ := trodAll_nil r0
  obtain rfl : args = #[v0] := by cases args; simp_all
  obtain ⟨rfl, rfl⟩ := trodVars_none hV
  obtain ⟨s0, rfl, rfl, rfl, -⟩ := Go.ChangeMaps.open_string Tryd.underlying9 (hval 0 9 v0 rfl rfl) h0
  refine (lexisLexes_walk s0 W (of_laid hL) ).mono fun e W' ⟨he, hb⟩ => ?_
  subst he
  exact ⟨_, rfl, law_post rfl rfl (by kernel_rfl) rfl hW' hb⟩

set_option maxRecDepth 100000 in
theorem lexisLexes_holds : Rows.LexisLexesSaid :=
  OpenClaim.holds_of_wide 3 Tryd.f3 rfl rfl rfl rfl rfl rfl rfl ⟨rfl, rfl, rfl, rfl, rfl⟩ rfl rfl rfl rfl rfl (by kernel_rfl) Tryd.func3 (by kernel_rfl)
    (of_decide_eq_true (by kernel_rfl)) (by unfold Func.isWrapper; first | (rw [if_pos (by decide +kernel)]; kernel_rfl) | (rw [if_neg (by decide +kernel)]; exact ⟨rfl, rfl⟩))
    (fun os started H enc _ => lexisLexes_lifted os started H enc)

set_option maxRecDepth 100000 in
theorem lexisLexes_card : Rows.LexisLexesCardSaid :=
  Claim7.holds_tied_plain_at .later [] [.data, .data, .data, .sentinel, .sentinel, .data, .data] true (true, "ddda70d33019e87f0703c012108ef98b898999fa982d023941ef7c674db79b79") true
    lexisLexes_holds (fun _ h => by cases h) (by kernel_rfl) (fun _ h => by cases h) lexisLexes_row_tie rfl ⟨rfl, rfl⟩ (by kernel_rfl) rfl
    (fun f fn hf hfn => by
      obtain rfl : f = 3 := Option.some.inj ((show Tryd.prog.funcNamed "cocoon/cocoonlaw04.LexisLexes" = some 3 by kernel_rfl).symm.trans hf) |>.symm
      obtain rfl : fn = Tryd.f3 := (Option.some.inj (Tryd.func3.symm.trans hfn)).symm
      exact ⟨by kernel_rfl, fun j t ht => by
        rw [Tryd.params3] at ht
        have hm : t ∈ [9] := by simpa using Array.mem_of_getElem? ht
        have hall : ([9].all fun u => !Tryd.prog.wantsStandIn u) = true := by kernel_rfl
        exact (show Tryd.prog.wantsStandIn t = false by simpa using List.all_eq_true.1 hall t hm)⟩)
    (by kernel_rfl)
end Go.Proofs.YthhkndnmeafanaaDoor
