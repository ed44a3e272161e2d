/-
  LexisOne answers true for every input. No conditions.
-/
import Derived.Test.YthhkndnmeafanaaDoorLWorks
import Derived.Test.YthhkndnmeafanaaDoorLClose
import Derived.Test.YthhkndnmeafanaaDoorCards
import Derived.Test.YthhkndnmeafanaaDoorTie
import Derived.SevenTiedAt
import Derived.ChangeMaps5
namespace Go.Proofs.YthhkndnmeafanaaDoor
open Go.RowKit Go.ChangeShapes Go.WideShapes Go.ChangeAt

theorem res_words : ∀ l ∈ resL, wordB l = true ∧ upperB l = false := by decide

theorem long_walk_one (s : ByteArray) (w : World) (hV : Vars w) (hs : ¬ s.size ≤ 2000) : Calls Tryd.prog 7 #[.string s] w fun e w' => e = .returned (.bool true) ∧ Below w.heap.size w w' := by
  have hwk := Lib.hid (works_any w hV)
  have t0 : decide ((s.size : Int) > 2000) = true := by simp; omega
  clear hV
  go_enter Tryd.func7, Tryd.ntmps7
  go_wp2_with fail
  refine hwk.out.mono ?_
  rintro e w1 ⟨rfl, hb1⟩
  have HB1 := Lib.hid hb1
  clear hb1
  go_wp2
  go_ret
  exact ⟨rfl, HB1.out⟩

set_option maxRecDepth 100000 in
set_option maxHeartbeats 4000000 in
theorem lexisOne_walk (s : ByteArray) (w : World) (hV : Vars w) : Calls Tryd.prog 7 #[.string s] w fun e w' => e = .returned (.bool true) ∧ Below w.heap.size w w' := by
  by_cases hs : s.size ≤ 2000
  case neg => exact long_walk_one s w hV hs
  have t0 : decide ((s.size : Int) > 2000) = false := by simp; omega
  have hlen : (bs s).length ≤ 65536 := by rw [bs_len]; omega
  have hwk := Lib.hid (works_any w hV)
  have HV := Lib.hid hV
  have hlx := Lib.hid (lex_any s)
  have g13 := Lib.hid (word_any s)
  have g15 := Lib.hid (upper_any s)
  have g17 := Lib.hid (reserved_any s)
  clear hV
  cases hw : wordB (bs s) with
  | true =>
    have hL := lexL_word hw
    have hru : ¬ (upperB (bs s) = true ∧ resB (bs s) = true) := fun h => by
      have := (res_words (bs s) (of_decide_eq_true h.2)).2
      rw [this] at h
      cases h.1
    rw [hw] at g13
    have HL := Lib.hid hL
    generalize upperB (bs s) = b2 at g15 hru
    generalize resB (bs s) = b3 at g17 hru
    clear hL hw
    go_enter Tryd.func7, Tryd.ntmps7
    go_wp2_with fail
    refine hwk.out.mono ?_
    rintro e w1 ⟨rfl, hb1⟩
    have HB1 := Lib.hid hb1
    have HV1 := Lib.hid (HV.out.b hb1)
    clear hb1
    go_wp2_with fail
    refine (hlx.out _ HV1.out).mono ?_
    rintro e w2 ⟨ho, hb2⟩
    rw [LexOut, HL.out] at ho
    obtain ⟨g, cap, rfl, hg, hT⟩ := ho
    have HB2 := Lib.hid (HB1.out.trans (hb2.mono HB1.out.size))
    have HV2 := Lib.hid (HV1.out.b hb2)
    obtain ⟨c0, c1, -, -⟩ := hT.2 0 _ rfl
    have hgl := hT.1
    rw [strB_of] at c1
    clear hT hb2 hg
    cases b2 <;> cases b3
    case true.true => exact absurd ⟨rfl, rfl⟩ hru
    all_goals
      clear hru
      go_wp2_with (first
    | (go_at_call 13; refine (g13.out _).mono ?_; rintro e w3 ⟨rfl, rfl⟩)
    | (go_at_call 15; refine (g15.out _).mono ?_; rintro e w3 ⟨rfl, rfl⟩)
    | (go_at_call 17; refine (g17.out _ HV2.out).mono ?_; rintro e w3 ⟨rfl, rfl⟩))
      go_ret
      exact ⟨rfl, HB2.out⟩
  | false =>
    have hu : upperB (bs s) = false := by unfold upperB; rw [hw]; rfl
    have hr : resB (bs s) = false := by
      cases h : resB (bs s) with
      | false => rfl
      | true =>
        have := (res_words (bs s) (of_decide_eq_true h)).1
        rw [this] at hw
        cases hw
    rw [hw] at g13
    rw [hu] at g15
    rw [hr] at g17
    have HW := Lib.hid hw
    clear hu hr hw
    go_enter Tryd.func7, Tryd.ntmps7
    go_wp2_with fail
    refine hwk.out.mono ?_
    rintro e w1 ⟨rfl, hb1⟩
    have HB1 := Lib.hid hb1
    have HV1 := Lib.hid (HV.out.b hb1)
    clear hb1
    go_wp2_with fail
    refine (hlx.out _ HV1.out).mono ?_
    rintro e w2 ⟨ho, hb2⟩
    have HB2 := Lib.hid (HB1.out.trans (hb2.mono HB1.out.size))
    have HV2 := Lib.hid (HV1.out.b hb2)
    clear hb2
    rw [LexOut] at ho
    cases hL : lexL (bs s) with
    | bad er q =>
      rw [hL] at ho
      subst ho
      have hne : er ≠ 0 := by
        rw [lexL, if_pos hlen] at hL
        exact (lexT_bad hL).2.2
      have t1 : (er == 0) = false := by simpa using hne
      clear hL hne
      go_wp2_with (first
    | (go_at_call 13; refine (g13.out _).mono ?_; rintro e w3 ⟨rfl, rfl⟩)
    | (go_at_call 15; refine (g15.out _).mono ?_; rintro e w3 ⟨rfl, rfl⟩)
    | (go_at_call 17; refine (g17.out _ HV2.out).mono ?_; rintro e w3 ⟨rfl, rfl⟩))
      go_ret
      exact ⟨rfl, HB2.out⟩
    | good ts =>
      rw [hL] at ho
      obtain ⟨g, cap, rfl, hg, hT⟩ := ho
      have HL := Lib.hid hL
      clear hL hg
      match ts, HL, hT with
      | [], HL, hT =>
        clear hT HL
        go_wp2_with (first
    | (go_at_call 13; refine (g13.out _).mono ?_; rintro e w3 ⟨rfl, rfl⟩)
    | (go_at_call 15; refine (g15.out _).mono ?_; rintro e w3 ⟨rfl, rfl⟩)
    | (go_at_call 17; refine (g17.out _ HV2.out).mono ?_; rintro e w3 ⟨rfl, rfl⟩))
        go_ret
        exact ⟨rfl, HB2.out⟩
      | [t], HL, hT =>
        obtain ⟨c0, c1, -, -⟩ := hT.2 0 _ rfl
        have hgl := hT.1
        have hno : ¬ (t.k = 1 ∧ t.text = bs s) := fun h => by
          have h1 := HL.out
          have : t = ⟨1, bs s, t.n, t.pos⟩ := by rw [← h.1, ← h.2]
          rw [this] at h1
          rw [one_word hlen h1] at HW
          exact absurd HW.out (by decide)
        clear hT
        by_cases hk : t.k = 1
        · have t1 : ((strB t.text).toList == s.toList) = false := by
            rw [Lib.toList_data, Lib.toList_data, show (strB t.text).data.toList = t.text from strB_bs _]
            simpa using fun h => hno ⟨hk, h⟩
          have t2 : (t.k == 1) = true := by simpa using hk
          clear hno hk
          go_wp2_with (first
    | (go_at_call 13; refine (g13.out _).mono ?_; rintro e w3 ⟨rfl, rfl⟩)
    | (go_at_call 15; refine (g15.out _).mono ?_; rintro e w3 ⟨rfl, rfl⟩)
    | (go_at_call 17; refine (g17.out _ HV2.out).mono ?_; rintro e w3 ⟨rfl, rfl⟩))
          go_ret
          exact ⟨rfl, HB2.out⟩
        · have t2 : (t.k == 1) = false := by simpa using hk
          clear hno hk
          go_wp2_with (first
    | (go_at_call 13; refine (g13.out _).mono ?_; rintro e w3 ⟨rfl, rfl⟩)
    | (go_at_call 15; refine (g15.out _).mono ?_; rintro e w3 ⟨rfl, rfl⟩)
    | (go_at_call 17; refine (g17.out _ HV2.out).mono ?_; rintro e w3 ⟨rfl, rfl⟩))
          go_ret
          exact ⟨rfl, HB2.out⟩
      | a :: b :: ts, HL, hT =>
        have t1 : (((ts.length : Int) + 1 + 1 + 1) == 2) = false := by rw [beq_eq_false_iff_ne]; omega
        clear hT HL
        go_wp2_with (first
    | (go_at_call 13; refine (g13.out _).mono ?_; rintro e w3 ⟨rfl, rfl⟩)
    | (go_at_call 15; refine (g15.out _).mono ?_; rintro e w3 ⟨rfl, rfl⟩)
    | (go_at_call 17; refine (g17.out _ HV2.out).mono ?_; rintro e w3 ⟨rfl, rfl⟩))
        go_ret
        exact ⟨rfl, HB2.out⟩

set_option maxRecDepth 100000 in
theorem lexisOne_lifted (os : Os) (started : os.Started) (H : Type) (enc : TypeId × Value → H) :
    ReturnsInHanded {} Tryd.checked os 7 .any (fun w args => (Rows.lexisOneSpec.pre enc Tryd.prog Tryd.f7 [] false w args ∧ laidMetH Tryd.prog laid7 w) ∧ sizedMet enc Tryd.prog Tryd.f7 (OpenSpec.ofChange Rows.lexisOneSpec) false w args)
      (Rows.lexisOneSpec.post enc Tryd.prog Tryd.f7 false true false false) := by
  refine returnsInHanded_of_change_and (C := Tryd.checked) (X := fun w _ => laidMetH Tryd.prog laid7 w) (fun _ _ _ hh h => h.of_heap hh) own started (by kernel_rfl) Tryd.func7
    (ChangeSpec.witness_shaped (enc := enc) (C := Tryd.checked) (os := os) (X := fun w _ => laidMetH Tryd.prog laid7 w) false (World.doorLaid Tryd.prog 400 os) #[.string ⟨#[]⟩] 8 rfl (World.shaped_of_RefB (by kernel_rfl) (by kernel_rfl)) (by kernel_rfl) (by kernel_rfl) (by kernel_rfl) (door_met os _)) ?_
  intro W base args ds gs before hval0 hW _ _ hL _
  have hval : ∀ (j : Nat) t v, Tryd.f7.params[j]? = some t → args[j]? = some v → Value.okWide Tryd.prog W .any base t v := hval0
  have hW' := hW
  obtain ⟨p, q, hA0, hV, rfl, hfz, hnd⟩ := hW
  have hA : DataW.TrodAll enc Tryd.prog W 0 (fun _ => true) true Tryd.f7.params.toList args.toList ds p := hA0
  rw [Tryd.params7] at hA hval
  obtain ⟨v0, vs0, d0, ds0, p0, q0, hargs, rfl, rfl, h0, r0⟩ := trodAll_cons hA
  obtain ⟨rfl, rfl, rfl⟩ := trodAll_nil r0
  obtain rfl : args = #[v0] := by cases args; simp_all
  obtain ⟨rfl, rfl⟩ := trodVars_none hV
  obtain ⟨s0, rfl, rfl, rfl, -⟩ := Go.ChangeMaps.open_string Tryd.underlying9 (hval 0 9 v0 rfl rfl) h0
  refine (lexisOne_walk s0 W (of_laid hL) ).mono fun e W' ⟨he, hb⟩ => ?_
  subst he
  exact ⟨_, rfl, law_post rfl rfl (by kernel_rfl) rfl hW' hb⟩

set_option maxRecDepth 100000 in
theorem lexisOne_holds : Rows.LexisOneSaid :=
  OpenClaim.holds_of_wide 7 Tryd.f7 rfl rfl rfl rfl rfl rfl rfl ⟨rfl, rfl, rfl, rfl, rfl⟩ rfl rfl rfl rfl rfl (by kernel_rfl) Tryd.func7 (by kernel_rfl)
    (of_decide_eq_true (by kernel_rfl)) (by unfold Func.isWrapper; first | (rw [if_pos (by decide +kernel)]; kernel_rfl) | (rw [if_neg (by decide +kernel)]; exact ⟨rfl, rfl⟩))
    (fun os started H enc _ => lexisOne_lifted os started H enc)

set_option maxRecDepth 100000 in
theorem lexisOne_card : Rows.LexisOneCardSaid :=
  Claim7.holds_tied_plain_at .later [] [.data, .data, .data, .sentinel, .sentinel, .data, .data] true (true, "ddda70d33019e87f0703c012108ef98b898999fa982d023941ef7c674db79b79") true
    lexisOne_holds (fun _ h => by cases h) (by kernel_rfl) (fun _ h => by cases h) lexisOne_row_tie rfl ⟨rfl, rfl⟩ (by kernel_rfl) rfl
    (fun f fn hf hfn => by
      obtain rfl : f = 7 := Option.some.inj ((show Tryd.prog.funcNamed "cocoon/cocoonlaw04.LexisOne" = some 7 by kernel_rfl).symm.trans hf) |>.symm
      obtain rfl : fn = Tryd.f7 := (Option.some.inj (Tryd.func7.symm.trans hfn)).symm
      exact ⟨by kernel_rfl, fun j t ht => by
        rw [Tryd.params7] at ht
        have hm : t ∈ [9] := by simpa using Array.mem_of_getElem? ht
        have hall : ([9].all fun u => !Tryd.prog.wantsStandIn u) = true := by kernel_rfl
        exact (show Tryd.prog.wantsStandIn t = false by simpa using List.all_eq_true.1 hall t hm)⟩)
    (by kernel_rfl)
end Go.Proofs.YthhkndnmeafanaaDoor
