/-
  LexisPlaces answers true for every input. No conditions.
-/
import Derived.Test.YthhkndnmeafanaaDoorLWorks
import Derived.Test.YthhkndnmeafanaaDoorLGlue
import Derived.Test.YthhkndnmeafanaaDoorLClose
import Derived.Test.YthhkndnmeafanaaDoorCards
import Derived.Test.YthhkndnmeafanaaDoorTie
import Derived.SevenTiedAt
import Derived.ChangeMaps5
import Derived.Deep.Cut
import Derived.Deep.QuietTactic
import Derived.BigQuiet
namespace Go.Proofs.YthhkndnmeafanaaDoor
open Go.RowKit Go.ChangeShapes Go.WideShapes Go.ChangeAt

/-- Where a walk over a text's tokens stands: ahead of token j, behind place e. -/
def At (l : List UInt8) (ts : List Tok) (j e : Nat) : Prop := e ≤ l.length ∧ ((j ≤ ts.length ∧ lexT e (l.drop e) = .good (ts.drop j)) ∨ (j = ts.length + 1 ∧ e = l.length))

theorem At.tok {l : List UInt8} {ts : List Tok} {j e : Nat} {u : Tok} (h : At l ts j e) (hu : ts[j]? = some u) :
    u.pos = e + passN false (l.drop e) ∧ 1 ≤ u.text.length ∧ u.pos + u.text.length ≤ l.length ∧ (l.drop u.pos).take u.text.length = u.text ∧ u.k ≠ 0 ∧ At l ts (j + 1) (u.pos + u.text.length) := by
  have hj := (List.getElem?_eq_some_iff.1 hu).1
  obtain ⟨h0, h | h⟩ := h
  · have hd : ts.drop j = u :: ts.drop (j + 1) := by rw [List.drop_eq_getElem_cons hj]; congr 1; exact (List.getElem?_eq_some_iff.1 hu).2
    rcases lexT_good h.2 with ⟨h1, _⟩ | ⟨t, us, h1, h2, h3, h4, h5, h6, _, h7⟩
    · rw [hd] at h1; cases h1
    · rw [hd] at h1
      cases h1
      rw [List.length_drop] at h4
      rw [List.drop_drop] at h5 h7
      have e1 : e + passN false (l.drop e) = u.pos := h2.symm
      rw [e1] at h5 h7
      rw [show e + (passN false (l.drop e) + u.text.length) = u.pos + u.text.length by omega] at h7
      exact ⟨h2, h3, by omega, h5.symm, by rcases h6 with h | h | h <;> rw [h] <;> decide, by omega, .inl ⟨by omega, h7⟩⟩
  · omega

theorem At.fin {l : List UInt8} {ts : List Tok} {e : Nat} (h : At l ts ts.length e) : e + passN false (l.drop e) = l.length := by
  obtain ⟨h0, h | h⟩ := h
  · rw [List.drop_length] at h
    rcases lexT_good h.2 with ⟨_, h1⟩ | ⟨t, us, h1, _⟩
    · rw [List.length_drop] at h1
      omega
    · cases h1
  · omega

theorem lexL_gap (l : List UInt8) (e n : Nat) (hl : l.length ≤ 2000) (hn : n = passN false (l.drop e)) : lexL ((l.drop e).take n ++ [10]) = .good [] := by
  rw [lexL, if_pos (by simp; omega), hn]
  exact lexT_gap 0 _

theorem places_long (s : ByteArray) (w : World) (hV : Vars w) (hs : ¬ s.size ≤ 2000) : Calls Tryd.prog 5 #[.string s] w fun e w' => e = .returned (.bool true) ∧ Below w.heap.size w w' := by
  have hwk := Lib.hid (works_any w hV)
  have t0 : decide ((s.size : Int) > 2000) = true := by simp; omega
  clear hV
  go_enter Tryd.func5, Tryd.ntmps5
  go_wp2_with fail
  refine hwk.out.mono ?_
  rintro e w1 ⟨rfl, hb1⟩
  have HB1 := Lib.hid hb1
  clear hb1
  go_wp2
  go_ret
  exact ⟨rfl, HB1.out⟩

set_option maxRecDepth 100000 in
set_option maxHeartbeats 8000000 in
theorem lexisPlaces_walk (s : ByteArray) (w : World) (hV : Vars w) : Calls Tryd.prog 5 #[.string s] w fun e w' => e = .returned (.bool true) ∧ Below w.heap.size w w' := by
  by_cases hs : s.size ≤ 2000
  case neg => exact places_long s w hV hs
  have t0 : decide ((s.size : Int) > 2000) = false := by simp; omega
  have hlen : (bs s).length ≤ 2000 := by rw [bs_len]; exact hs
  have hwk := Lib.hid (works_any w hV)
  have HV := Lib.hid hV
  have hlx := Lib.hid (lex_any s)
  clear hV
  go_enter Tryd.func5, Tryd.ntmps5
  go_wp2_with fail
  refine hwk.out.mono ?_
  rintro e w1 ⟨rfl, hb1⟩
  have HB1 := Lib.hid hb1
  have HV1 := Lib.hid (HV.out.b hb1)
  clear hb1
  go_wp2_with fail
  refine (hlx.out _ HV1.out).mono ?_
  rintro e w2 ⟨ho, hb2⟩
  have HB2 := Lib.hid (HB1.out.trans (hb2.mono HB1.out.size))
  have HV2 := Lib.hid (HV1.out.b hb2)
  clear hb2
  rw [LexOut] at ho
  have hLT : lexL (bs s) = lexT 0 (bs s) := by rw [lexL, if_pos (by omega)]
  cases hL : lexL (bs s) with
  | bad er q =>
    rw [hL] at ho
    subst ho
    rw [hL] at hLT
    have hq := lexT_bad hLT.symm
    rw [bs_len] at hq
    have t1 : (er != 0) = true := by simpa using hq.2.2
    have hqs : q < s.size := by omega
    have t2 : decide ((q : Int) < max (s.size : Int) 1) = true := by rw [decide_eq_true_eq]; omega
    clear hq hL hLT
    go_wp2_with fail
    go_ret
    exact ⟨rfl, HB2.out⟩
  | good ts =>
    rw [hL] at ho hLT
    obtain ⟨g, cap, rfl, -, hT⟩ := ho
    have HT := Lib.hid hT
    have hA0 := Lib.hid (show At (bs s) ts 0 0 from ⟨by omega, .inl ⟨by omega, by rw [List.drop_zero, List.drop_zero]; exact hLT.symm⟩⟩)
    have htl : ts.length ≤ 2000 := lexL_len hs hL
    clear hT hL hLT
    go_wp2_with fail
    go_loopw [7, 8] (fun ve u wr => ∃ (j e : Nat), j ≤ ts.length + 1 ∧ u = .int .i64 j ∧ ve = .int .i64 e ∧ At (bs s) ts j e ∧ Below w2.heap.size w2 wr) (fun _ u _ => ts.length + 1 - (intOf u).toNat)
    case atStart => exact ⟨0, 0, by omega, rfl, rfl, hA0.out, Below.refl _ _⟩
    case round =>
      obtain ⟨j, e, hj, rfl, rfl, hat, hb⟩ := hrel
      have HAT := Lib.hid hat
      have HBR := Lib.hid hb
      have hT := HT.out.below hb
      have hes : e ≤ s.size := by have := hat.1; rw [bs_len] at this; exact this
      by_cases hjl : j < ts.length
      · have t1 : decide ((j : Int) < (ts.length : Int) + 1) = true := by simp; omega
        obtain ⟨u, hu⟩ : ∃ u, ts[j]? = some u := ⟨_, List.getElem?_eq_getElem hjl⟩
        obtain ⟨p1, p2, p3, p4, p5, p6⟩ := hat.tok hu
        rw [bs_len] at p3
        obtain ⟨z0, z1, z2, z3⟩ := hT.2 j u (by rw [List.getElem?_append_left hjl, hu])
        have gl := hT.1
        obtain ⟨m, hm⟩ : ∃ m, m = u.text.length := ⟨_, rfl⟩
        rw [← hm] at p2 p3 p4 p6
        have hsz : (strB u.text).size = m := by rw [strB_size, hm]
        have hx : s.extract u.pos (u.pos + m) = strB u.text := by rw [extract_strB, Nat.add_sub_cancel_left, p4]
        have hgap : s.extract e u.pos ++ ⟨#[10]⟩ = strB (((bs s).drop e).take (u.pos - e) ++ [10]) := by
          rw [← strB_of (s.extract e u.pos ++ ⟨#[10]⟩), bs_append, show bs (s.extract e u.pos) = ((bs s).drop e).take (u.pos - e) from by rw [extract_strB, strB_bs]]
        have hlg := lex_any (s.extract e u.pos ++ ⟨#[10]⟩)
        have hgood : lexL (bs (s.extract e u.pos ++ ⟨#[10]⟩)) = .good [] := by
          rw [hgap, strB_bs]
          exact lexL_gap _ _ _ hlen (by omega)
        have HLG := Lib.hid hlg
        have HGO := Lib.hid hgood
        have HP6 := Lib.hid p6
        have t2 : decide ((u.pos : Int) < e) = false := by simp; omega
        have t3 : decide ((u.pos : Int) > s.size) = false := by simp; omega
        have t4 : decide ((m : Int) > (s.size : Int) - u.pos) = false := by simp; omega
        have t5 : (u.k == 0) = false := by simpa using p5
        have t6 : ((j : Int) == ts.length) = false := by rw [beq_eq_false_iff_ne]; omega
        have t7 : ¬ (strB u.text).toList = [] := by
          rw [Lib.toList_data, show (strB u.text).data.toList = u.text from strB_bs _]
          intro h; rw [h] at hm; simp at hm; omega
        have t8 : (strB u.text).toList.isEmpty = false := by simpa using t7
        have hep : e ≤ u.pos := by omega
        have n2 : ¬ u.pos < e := by omega
        have n3 : ¬ s.size < u.pos := by omega
        have n6 : ¬ j = ts.length := by omega
        have n6' : (j == ts.length) = false := by simpa using n6
        have n5 : ¬ u.k = 0 := by simpa using t5
        clear hat hb hu p1 p4 p5 p6 hm hT hgap hlg hgood
        go_upto_region 14 with fail
        have hB5 := alloc_below wr (.cells #[.int .i64 u.k, .string (strB u.text), .int .i64 u.n, .int .i64 u.pos] 31)
        have hX5 := heap_alloc_new wr (.cells #[.int .i64 u.k, .string (strB u.text), .int .i64 u.n, .int .i64 u.pos] 31)
        have HF := Lib.hid (HBR.out.trans (hB5.mono HBR.out.size))
        have HX5 := Lib.hid hX5
        clear z0 z1 z2 z3 gl hB5 hX5
        generalize wr.alloc (.cells #[.int .i64 u.k, .string (strB u.text), .int .i64 u.n, .int .i64 u.pos] 31) = W5 at HF HX5 ⊢
        generalize wr.heap.size = b5 at HX5 ⊢
        obtain ⟨c0, c1, c2, c3, cf, cl⟩ := cells4 HX5.out
        go_region
        have HF5 := Lib.hid HF.out.drew
        have HV5 := Lib.hid (HV2.out.b HF5.out)
        go_wp2_with (go_at_call 10; refine (HLG.out _ HV5.out).mono ?_; rintro e' w6 ⟨ho, hb6⟩; rw [LexOut, HGO.out] at ho; obtain ⟨gm, cm, rfl, -, -⟩ := ho; have HF6 := Lib.hid (HF5.out.trans (hb6.mono HF5.out.size)); have HX6 := Lib.hid (keepB (w := W5.drew) HX5.out hb6); obtain ⟨d0, d1, d2, d3, df, dl⟩ := cells4 HX6.out; clear hb6)
        go_roundw
        case rel => exact ⟨j + 1, u.pos + m, by omega, by go_num, by go_num, HP6.out, HF6.out⟩
        case measure => simp [intOf]; omega
      · by_cases hje : j = ts.length
        · have t1 : decide ((j : Int) < (ts.length : Int) + 1) = true := by simp; omega
          have hfin : e + passN false ((bs s).drop e) = s.size := by rw [hje] at hat; rw [hat.fin, bs_len]
          obtain ⟨z0, z1, z2, z3⟩ := hT.2 j (endTok s) (by rw [hje, List.getElem?_append_right (by omega), Nat.sub_self]; rfl)
          simp only [endTok] at z0 z1 z2 z3
          have gl := hT.1
          have hgap : s.extract e s.size ++ ⟨#[10]⟩ = strB (((bs s).drop e).take (s.size - e) ++ [10]) := by
            rw [← strB_of (s.extract e s.size ++ ⟨#[10]⟩), bs_append, show bs (s.extract e s.size) = ((bs s).drop e).take (s.size - e) from by rw [extract_strB, strB_bs]]
          have hlg := lex_any (s.extract e s.size ++ ⟨#[10]⟩)
          have hgood : lexL (bs (s.extract e s.size ++ ⟨#[10]⟩)) = .good [] := by
            rw [hgap, strB_bs]
            exact lexL_gap _ _ _ hlen (by omega)
          have HLG := Lib.hid hlg
          have HGO := Lib.hid hgood
          have n2 : ¬ s.size < e := by omega
          have n6 : (j == ts.length) = true := by simpa using hje
          have n6' : ((j : Int) == ts.length) = true := by rw [beq_iff_eq]; omega
          have hem : (strB []).toList = [] := by rw [Lib.toList_data]; exact strB_bs _
          have hes0 : (strB []).size = 0 := rfl
          have hx : s.extract s.size s.size = strB [] := by rw [extract_strB, Nat.sub_self, List.take_zero]
          have HJE := Lib.hid hje
          have hjl1 : j < ts.length + 1 := by omega
          have hj1 : (j : Int) < (ts.length : Int) + 1 := by omega
          clear hat hb hT hgap hlg hgood hfin hje
          go_upto_region 14 with fail
          have hB5 := alloc_below wr (.cells #[.int .i64 0, .string (strB []), .int .i64 0, .int .i64 s.size] 31)
          have hX5 := heap_alloc_new wr (.cells #[.int .i64 0, .string (strB []), .int .i64 0, .int .i64 s.size] 31)
          have HF := Lib.hid (HBR.out.trans (hB5.mono HBR.out.size))
          have HX5 := Lib.hid hX5
          clear z0 z1 z2 z3 gl hB5 hX5
          generalize wr.alloc (.cells #[.int .i64 0, .string (strB []), .int .i64 0, .int .i64 s.size] 31) = W5 at HF HX5 ⊢
          generalize wr.heap.size = b5 at HX5 ⊢
          obtain ⟨c0, c1, c2, c3, cf, cl⟩ := cells4 HX5.out
          go_region
          have HF5 := Lib.hid HF.out.drew
          have HV5 := Lib.hid (HV2.out.b HF5.out)
          go_wp2_with (go_at_call 10; refine (HLG.out _ HV5.out).mono ?_; rintro e' w6 ⟨ho, hb6⟩; rw [LexOut, HGO.out] at ho; obtain ⟨gm, cm, rfl, -, -⟩ := ho; have HF6 := Lib.hid (HF5.out.trans (hb6.mono HF5.out.size)); have HX6 := Lib.hid (keepB (w := W5.drew) HX5.out hb6); obtain ⟨d0, d1, d2, d3, df, dl⟩ := cells4 HX6.out; clear hb6)
          go_roundw
          case rel => exact ⟨j + 1, s.size, by omega, by go_num, by first | rfl | go_num | simp, ⟨by rw [bs_len]; omega, .inr ⟨by rw [HJE.out], (bs_len s).symm⟩⟩, HF6.out⟩
          case measure => simp [intOf]; omega
        · have hjn : j = ts.length + 1 := by omega
          have t1 : decide ((j : Int) < (ts.length : Int) + 1) = false := by simp; omega
          have hee : e = s.size := by
            obtain ⟨_, h | h⟩ := hat
            · omega
            · rw [h.2, bs_len]
          subst hee
          have HB3 := Lib.hid (HB2.out.trans (HBR.out.mono HB2.out.size))
          clear hat hb hT
          go_wp2_with fail
          go_ret
          exact ⟨rfl, HB3.out⟩

set_option maxRecDepth 100000 in
theorem lexisPlaces_lifted (os : Os) (started : os.Started) (H : Type) (enc : TypeId × Value → H) :
    ReturnsInHanded {} Tryd.checked os 5 .any (fun w args => (Rows.lexisPlacesSpec.pre enc Tryd.prog Tryd.f5 [] false w args ∧ laidMetH Tryd.prog laid7 w) ∧ sizedMet enc Tryd.prog Tryd.f5 (OpenSpec.ofChange Rows.lexisPlacesSpec) false w args)
      (Rows.lexisPlacesSpec.post enc Tryd.prog Tryd.f5 false true false false) := by
  refine returnsInHanded_of_change_and (C := Tryd.checked) (X := fun w _ => laidMetH Tryd.prog laid7 w) (fun _ _ _ hh h => h.of_heap hh) own started (by kernel_rfl) Tryd.func5
    (ChangeSpec.witness_shaped (enc := enc) (C := Tryd.checked) (os := os) (X := fun w _ => laidMetH Tryd.prog laid7 w) false (World.doorLaid Tryd.prog 400 os) #[.string ⟨#[]⟩] 8 rfl (World.shaped_of_RefB (by kernel_rfl) (by kernel_rfl)) (by kernel_rfl) (by kernel_rfl) (by kernel_rfl) (door_met os _)) ?_
  intro W base args ds gs before hval0 hW _ _ hL _
  have hval : ∀ (j : Nat) t v, Tryd.f5.params[j]? = some t → args[j]? = some v → Value.okWide Tryd.prog W .any base t v := hval0
  have hW' := hW
  obtain ⟨p, q, hA0, hV, rfl, hfz, hnd⟩ := hW
  have hA : DataW.TrodAll enc Tryd.prog W 0 (fun _ => true) true Tryd.f5.params.toList args.toList ds p := hA0
  rw [Tryd.params5] at hA hval
  obtain ⟨v0, vs0, d0, ds0, p0, q0, hargs, rfl, rfl, h0, r0⟩ := trodAll_cons hA
  obtain ⟨rfl, rfl, rfl⟩ := trodAll_nil r0
  obtain rfl : args = #[v0] := by cases args; simp_all
  obtain ⟨rfl, rfl⟩ := trodVars_none hV
  obtain ⟨s0, rfl, rfl, rfl, -⟩ := Go.ChangeMaps.open_string Tryd.underlying9 (hval 0 9 v0 rfl rfl) h0
  refine (lexisPlaces_walk s0 W (of_laid hL) ).mono fun e W' ⟨he, hb⟩ => ?_
  subst he
  exact ⟨_, rfl, law_post rfl rfl (by kernel_rfl) rfl hW' hb⟩

set_option maxRecDepth 100000 in
theorem lexisPlaces_holds : Rows.LexisPlacesSaid :=
  OpenClaim.holds_of_wide 5 Tryd.f5 rfl rfl rfl rfl rfl rfl rfl ⟨rfl, rfl, rfl, rfl, rfl⟩ rfl rfl rfl rfl rfl (by kernel_rfl) Tryd.func5 (by kernel_rfl)
    (of_decide_eq_true (by kernel_rfl)) (by unfold Func.isWrapper; first | (rw [if_pos (by decide +kernel)]; kernel_rfl) | (rw [if_neg (by decide +kernel)]; exact ⟨rfl, rfl⟩))
    (fun os started H enc _ => lexisPlaces_lifted os started H enc)

set_option maxRecDepth 100000 in
theorem lexisPlaces_card : Rows.LexisPlacesCardSaid :=
  Claim7.holds_tied_plain_at .later [] [.data, .data, .data, .sentinel, .sentinel, .data, .data] true (true, "ddda70d33019e87f0703c012108ef98b898999fa982d023941ef7c674db79b79") true
    lexisPlaces_holds (fun _ h => by cases h) (by kernel_rfl) (fun _ h => by cases h) lexisPlaces_row_tie rfl ⟨rfl, rfl⟩ (by kernel_rfl) rfl
    (fun f fn hf hfn => by
      obtain rfl : f = 5 := Option.some.inj ((show Tryd.prog.funcNamed "cocoon/cocoonlaw04.LexisPlaces" = some 5 by kernel_rfl).symm.trans hf) |>.symm
      obtain rfl : fn = Tryd.f5 := (Option.some.inj (Tryd.func5.symm.trans hfn)).symm
      exact ⟨by kernel_rfl, fun j t ht => by
        rw [Tryd.params5] at ht
        have hm : t ∈ [9] := by simpa using Array.mem_of_getElem? ht
        have hall : ([9].all fun u => !Tryd.prog.wantsStandIn u) = true := by kernel_rfl
        exact (show Tryd.prog.wantsStandIn t = false by simpa using List.all_eq_true.1 hall t hm)⟩)
    (by kernel_rfl)
end Go.Proofs.YthhkndnmeafanaaDoor
