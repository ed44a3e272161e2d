/-
  LexisNumbers answers true for every input. No conditions.
-/
import Derived.Test.YthhkndnmeafanaaDoorLNumA
namespace Go.Proofs.YthhkndnmeafanaaDoor
open Go.RowKit Go.ChangeShapes Go.WideShapes Go.ChangeAt

theorem numbers_off (n z : Int) (w : World) (hV : Vars w) (h : n < 0 ∨ z < 0 ∨ 100 < z) : Calls Tryd.prog 8 #[.int .i64 n, .int .i64 z] w fun e w' => e = .returned (.bool true) ∧ Below w.heap.size w w' := by
  have hwk := Lib.hid (works_any w hV)
  clear hV
  by_cases h1 : n < 0
  · have t0 : decide (n < 0) = true := by simpa using h1
    clear h
    go_enter Tryd.func8, Tryd.ntmps8
    go_wp2_with fail
    refine hwk.out.mono ?_
    rintro e w1 ⟨rfl, hb1⟩
    have HB1 := Lib.hid hb1
    clear hb1
    go_wp2
    go_ret
    exact ⟨rfl, HB1.out⟩
  · have t0 : decide (n < 0) = false := by simpa using h1
    by_cases h2 : z < 0
    · have t1 : decide (z < 0) = true := by simpa using h2
      clear h
      go_enter Tryd.func8, Tryd.ntmps8
      go_wp2_with fail
      refine hwk.out.mono ?_
      rintro e w1 ⟨rfl, hb1⟩
      have HB1 := Lib.hid hb1
      clear hb1
      go_wp2
      go_ret
      exact ⟨rfl, HB1.out⟩
    · have t1 : decide (z < 0) = false := by simpa using h2
      have t2 : decide (z > 100) = true := by simp; omega
      clear h
      go_enter Tryd.func8, Tryd.ntmps8
      go_wp2_with fail
      refine hwk.out.mono ?_
      rintro e w1 ⟨rfl, hb1⟩
      have HB1 := Lib.hid hb1
      clear hb1
      go_wp2
      go_ret
      exact ⟨rfl, HB1.out⟩

set_option maxRecDepth 100000 in
set_option maxHeartbeats 8000000 in
theorem numbers_on (n z : Nat) (hn : n < 9223372036854775808) (hz : z ≤ 100) (w : World) (hV : Vars w) : Calls Tryd.prog 8 #[.int .i64 n, .int .i64 z] w fun e w' => e = .returned (.bool true) ∧ Below w.heap.size w w' := by
  have hwk := Lib.hid (works_any w hV)
  have HV := Lib.hid hV
  have t0 : decide ((n : Int) < 0) = false := by simp
  have t1 : decide ((z : Int) < 0) = false := by simp
  have t2 : decide ((z : Int) > 100) = false := by simp; omega
  have hlx := Lib.hid (lex_any (strB (List.replicate z 48 ++ Lib.decDigits n)))
  have hgo := Lib.hid (numbers_lex n z hn hz)
  clear hV
  go_enter Tryd.func8, Tryd.ntmps8
  go_wp2_with fail
  refine hwk.out.mono ?_
  rintro e w1 ⟨rfl, hb1⟩
  have HB1 := Lib.hid hb1
  have HV1 := Lib.hid (HV.out.b hb1)
  clear hb1
  go_wp2_with fail
  go_loopw [6, 7] (fun us un wr => ∃ (m : Nat) (s : List UInt8), un = .int .i64 m ∧ us = .string (strB s) ∧ m ≤ n ∧ DgInv n m s ∧ Below w1.heap.size w1 wr) (fun us un _ => 2 * (intOf un).toNat + emp us)
  case atStart => exact ⟨n, [], rfl, rfl, Nat.le_refl _, .inl ⟨rfl, rfl⟩, Below.refl _ _⟩
  case round =>
    obtain ⟨m, s, rfl, rfl, hm, hD, hb⟩ := hrel
    have hl := hD.len hn
    have HD := Lib.hid hD
    have hcv := conv_byte (48 + m % 10) (m % 10) rfl (by omega) wr
    have hadd : ∀ W, (Op.stringOp .add (strB [UInt8.ofNat (48 + m % 10)]) (strB s)).run Tryd.prog W = .ok (.string (strB (UInt8.ofNat (48 + m % 10) :: s))) W := fun W => by
      have := add_text [UInt8.ofNat (48 + m % 10)] s (by simp; omega) W
      exact this
    have hfin : Hid (∀ wr' : World, Below wr.heap.size wr wr' → Below w1.heap.size w1 wr') := Lib.hid fun wr' h1 => hb.trans (h1.mono hb.size)
    obtain ⟨S', hS'⟩ : ∃ S', S' = strB (UInt8.ofNat (48 + m % 10) :: s) := ⟨_, rfl⟩
    obtain ⟨X, hX⟩ : ∃ X, X = strB [UInt8.ofNat (48 + m % 10)] := ⟨_, rfl⟩
    rw [← hX, ← hS'] at hadd
    rw [← hX] at hcv
    replace hS' := Lib.hid hS'
    clear hX hl hD
    by_cases h0 : 0 < m
    · have t3 : decide ((m : Int) > 0) = true := by simpa using h0
      replace hcv := hcv (48 + (m : Int) % 10) (by omega)
      go_wp2_with fail
      go_roundw
      case rel => exact ⟨m / 10, _, by go_num, by rw [hS'.out], by omega, HD.out.step (.inl h0), hfin.out _ (alloc_below _ _)⟩
      case measure =>
        rw [hS'.out, emp_strB, emp_strB, if_neg (by simp)]
        show 2 * ((m : Int) / 10).toNat + 0 < 2 * (m : Int).toNat + _
        split <;> omega
    · have t3 : decide ((m : Int) > 0) = false := by simpa using h0
      obtain rfl : m = 0 := by omega
      cases s with
      | nil =>
        replace hcv := hcv 48 (by simp)
        have t4 : (strB []).toList.isEmpty = true := by rw [strB_isEmpty]; rfl
        go_wp2
        go_roundw
        case rel => exact ⟨0, _, rfl, by rw [hS'.out], Nat.zero_le _, HD.out.step (.inr rfl), hfin.out _ (alloc_below _ _)⟩
        case measure =>
          rw [hS'.out, emp_strB, emp_strB, if_neg (by simp), if_pos rfl]
          simp [intOf]
      | cons c s =>
        have t4 : (strB (c :: s)).toList.isEmpty = false := by rw [strB_isEmpty]; rfl
        have hfi := Lib.hid (HD.out.fin (by simp))
        have hmk := fun W => make_noughts W z hz
        have HBr := Lib.hid hb
        have hdl := HD.out.len hn
        have hadd2 : ∀ W, (Op.stringOp .add (strB (List.replicate z 48)) (strB (c :: s))).run Tryd.prog W = .ok (.string (strB (List.replicate z 48 ++ Lib.decDigits n))) W := fun W => by
          have := add_text (List.replicate z 48) (c :: s) (by simp at hdl ⊢; omega) W
          rw [this, hfi.out]
        obtain ⟨Y, hY⟩ : ∃ Y, Y = strB (List.replicate z 48) := ⟨_, rfl⟩
        obtain ⟨Z, hZ⟩ : ∃ Z, Z = strB (List.replicate z 48 ++ Lib.decDigits n) := ⟨_, rfl⟩
        rw [← hY, ← hZ] at hadd2
        rw [← hZ] at hlx
        have HY := Lib.hid hY
        have HZ := Lib.hid hZ
        have hX0 := heap_alloc_new wr (.cells (nil0 z 0).toArray 5)
        have hB0 := HBr.out.trans ((alloc_below wr (.cells (nil0 z 0).toArray 5)).mono HBr.out.size)
        have HX0 := Lib.hid hX0
        have HB0 := Lib.hid hB0
        have hgb := HBr.out.size
        clear HD hS' hcv hadd hfin hdl hb hfi hY hZ hX0 hB0
        generalize strB (c :: s) = S at t4 hadd2 ⊢
        go_upto_region 12 with fail
        generalize wr.alloc (.cells (nil0 z 0).toArray 5) = W0 at HX0 HB0 ⊢
        obtain ⟨b, hbe⟩ : ∃ b, b = wr.heap.size := ⟨_, rfl⟩
        rw [← hbe] at HX0 hgb
        simp only [← hbe]
        clear hbe hmk
        go_wp2_with fail
        go_loopw [9] (fun u wx => ∃ j : Nat, j ≤ z ∧ u = .int .i64 j ∧ wx.heap[b]? = some (.cells (nil0 z j).toArray 5) ∧ Below w1.heap.size w1 wx) (fun u _ => z - (intOf u).toNat)
        case atStart => exact ⟨0, by omega, rfl, HX0.out, HB0.out⟩
        case round =>
          obtain ⟨j, hj, rfl, hx, hb⟩ := hrel
          have HX := Lib.hid hx
          have HB := Lib.hid hb
          have hbl := (Array.getElem?_eq_some_iff.1 hx).1
          by_cases hjz : j < z
          · have t5 : decide ((j : Int) < z) = true := by simp; omega
            have hc : wr.cell? ⟨b, j, none⟩ = some (.int .u8 0) := by
              simp only [World.cell?, hx]
              show (nil0 z j).toArray[j]? = _
              rw [List.getElem?_toArray, nil0, List.getElem?_append_right (by simp), List.length_replicate, Nat.sub_self, List.getElem?_replicate, if_pos (by omega)]
            have hf : wr.frozen? ⟨b, j, none⟩ = false := by simp [World.frozen?, hx]
            clear hx hb
            go_wp2_with fail
            go_roundw
            case rel =>
              refine ⟨j + 1, by omega, by go_num, ?_, HB.out.setCell hgb _⟩
              rw [← nil0_set z j hjz]
              exact heap_setCell_same wr b j _ _ _ HX.out
            case measure => simp [intOf]; omega
          · have t5 : decide ((j : Int) < z) = false := by simp; omega
            obtain rfl : j = z := by omega
            have hcv : (convert 33 9 (.slice (some ⟨b, 0, none⟩) j j)).run Tryd.prog wr = .ok (.string Y) wr := by
              have := run_convert_bytes_back (P := Tryd.prog) wr 33 9 5 ⟨b, 0, none⟩ j (List.replicate j 48) Tryd.underlying33 Tryd.underlying5 Tryd.underlying9 (fun i hi => by
                have hi' : i < j := by simpa using hi
                have hadd : (⟨b, 0, none⟩ : Addr).add i = ⟨b, i, none⟩ := by unfold Addr.add; split <;> simp_all
                rw [hadd]
                simp only [World.cell?, hx, nil0, Nat.sub_self, List.replicate_zero, List.append_nil]
                simp [hi'])
              rw [List.length_replicate] at this
              rw [HY.out]
              exact this
            have HVr := Lib.hid (HV1.out.b hb)
            clear hx hb
            go_wp2_with (go_at_call 10; refine (hlx.out _ HVr.out).mono ?_; rintro e w6 ⟨ho, hb6⟩; rw [LexOut, HZ.out, strB_bs, hgo.out] at ho; obtain ⟨g, cap, rfl, -, hT⟩ := ho; have HF6 := Lib.hid (HB1.out.trans ((HB.out.trans (hb6.mono HB.out.size)).mono HB1.out.size)); obtain ⟨c0, c1, c2, c3⟩ := hT.2 0 _ rfl; have hgl := hT.1; clear hb6 hT)
            go_ret
            exact ⟨rfl, HF6.out⟩

theorem lexisNumbers_walk (n z : Int) (w : World) (hV : Vars w) (h1 : -9223372036854775808 ≤ n) (h2 : n ≤ 9223372036854775807) (_ : -9223372036854775808 ≤ z) (_ : z ≤ 9223372036854775807) : Calls Tryd.prog 8 #[.int .i64 n, .int .i64 z] w fun e w' => e = .returned (.bool true) ∧ Below w.heap.size w w' := by
  by_cases h : n < 0 ∨ z < 0 ∨ 100 < z
  · exact numbers_off n z w hV h
  · obtain ⟨n', rfl⟩ : ∃ k : Nat, n = k := ⟨n.toNat, by omega⟩
    obtain ⟨z', rfl⟩ : ∃ k : Nat, z = k := ⟨z.toNat, by omega⟩
    exact numbers_on n' z' (by omega) (by omega) w hV

set_option maxRecDepth 100000 in
theorem lexisNumbers_lifted (os : Os) (started : os.Started) (H : Type) (enc : TypeId × Value → H) :
    ReturnsInHanded {} Tryd.checked os 8 .any (fun w args => (Rows.lexisNumbersSpec.pre enc Tryd.prog Tryd.f8 [] false w args ∧ laidMetH Tryd.prog laid7 w) ∧ sizedMet enc Tryd.prog Tryd.f8 (OpenSpec.ofChange Rows.lexisNumbersSpec) false w args)
      (Rows.lexisNumbersSpec.post enc Tryd.prog Tryd.f8 false true false false) := by
  refine returnsInHanded_of_change_and (C := Tryd.checked) (X := fun w _ => laidMetH Tryd.prog laid7 w) (fun _ _ _ hh h => h.of_heap hh) own started (by kernel_rfl) Tryd.func8
    (ChangeSpec.witness_shaped (enc := enc) (C := Tryd.checked) (os := os) (X := fun w _ => laidMetH Tryd.prog laid7 w) false (World.doorLaid Tryd.prog 400 os) #[.int .i64 0, .int .i64 0] 8 rfl (World.shaped_of_RefB (by kernel_rfl) (by kernel_rfl)) (by kernel_rfl) (by kernel_rfl) (by kernel_rfl) (door_met os _)) ?_
  intro W base args ds gs before hval0 hW _ _ hL _
  have hval : ∀ (j : Nat) t v, Tryd.f8.params[j]? = some t → args[j]? = some v → Value.okWide Tryd.prog W .any base t v := hval0
  have hW' := hW
  obtain ⟨p, q, hA0, hV, rfl, hfz, hnd⟩ := hW
  have hA : DataW.TrodAll enc Tryd.prog W 0 (fun _ => true) true Tryd.f8.params.toList args.toList ds p := hA0
  rw [Tryd.params8] at hA hval
  obtain ⟨v0, vs0, d0, ds0, p0, q0, hargs, rfl, rfl, h0, r0⟩ := trodAll_cons hA
  obtain ⟨v1, vs1, d1, ds1, p1, q1, rfl, rfl, rfl, h1, r1⟩ := trodAll_cons r0
  obtain ⟨rfl, rfl, rfl⟩ := trodAll_nil r1
  obtain rfl : args = #[v0, v1] := by cases args; simp_all
  obtain ⟨rfl, rfl⟩ := trodVars_none hV
  obtain ⟨s0, rfl, rfl, rfl, hz0⟩ := open_int Tryd.underlying3 (hval 0 3 v0 rfl rfl) h0
  obtain ⟨s1, rfl, rfl, rfl, hz1⟩ := open_int Tryd.underlying3 (hval 1 3 v1 rfl rfl) h1
  refine (lexisNumbers_walk s0 s1 W (of_laid hL) (i64_bounds hz0).1 (i64_bounds hz0).2 (i64_bounds hz1).1 (i64_bounds hz1).2).mono fun e W' ⟨he, hb⟩ => ?_
  subst he
  exact ⟨_, rfl, law_post rfl rfl (by kernel_rfl) rfl hW' hb⟩

set_option maxRecDepth 100000 in
theorem lexisNumbers_holds : Rows.LexisNumbersSaid :=
  OpenClaim.holds_of_wide 8 Tryd.f8 rfl rfl rfl rfl rfl rfl rfl ⟨rfl, rfl, rfl, rfl, rfl⟩ rfl rfl rfl rfl rfl (by kernel_rfl) Tryd.func8 (by kernel_rfl)
    (of_decide_eq_true (by kernel_rfl)) (by unfold Func.isWrapper; first | (rw [if_pos (by decide +kernel)]; kernel_rfl) | (rw [if_neg (by decide +kernel)]; exact ⟨rfl, rfl⟩))
    (fun os started H enc _ => lexisNumbers_lifted os started H enc)

set_option maxRecDepth 100000 in
theorem lexisNumbers_card : Rows.LexisNumbersCardSaid :=
  Claim7.holds_tied_plain_at .later [] [.data, .data, .data, .sentinel, .sentinel, .data, .data] true (true, "ddda70d33019e87f0703c012108ef98b898999fa982d023941ef7c674db79b79") true
    lexisNumbers_holds (fun _ h => by cases h) (by kernel_rfl) (fun _ h => by cases h) lexisNumbers_row_tie rfl ⟨rfl, rfl⟩ (by kernel_rfl) rfl
    (fun f fn hf hfn => by
      obtain rfl : f = 8 := Option.some.inj ((show Tryd.prog.funcNamed "cocoon/cocoonlaw04.LexisNumbers" = some 8 by kernel_rfl).symm.trans hf) |>.symm
      obtain rfl : fn = Tryd.f8 := (Option.some.inj (Tryd.func8.symm.trans hfn)).symm
      exact ⟨by kernel_rfl, fun j t ht => by
        rw [Tryd.params8] at ht
        have hm : t ∈ [3, 3] := by simpa using Array.mem_of_getElem? ht
        have hall : ([3, 3].all fun u => !Tryd.prog.wantsStandIn u) = true := by kernel_rfl
        exact (show Tryd.prog.wantsStandIn t = false by simpa using List.all_eq_true.1 hall t hm)⟩)
    (by kernel_rfl)
end Go.Proofs.YthhkndnmeafanaaDoor
