/-
  LexisGlue answers true for every input. No conditions.
-/
import Derived.Test.YthhkndnmeafanaaDoorLWorks
import Derived.Test.YthhkndnmeafanaaDoorLClose
import Derived.Test.YthhkndnmeafanaaDoorCards
import Derived.Test.YthhkndnmeafanaaDoorTie
import Derived.SevenTiedAt
import Derived.ChangeMaps5
import Derived.Deep.Cut
namespace Go.Proofs.YthhkndnmeafanaaDoor
open Go.RowKit Go.ChangeShapes Go.WideShapes Go.ChangeAt

theorem lexL_glue (a b : List UInt8) (ha : a.length ≤ 2000) (hb : b.length ≤ 2000) : lexL (a ++ 10 :: b) = match lexL a with
    | .bad e q => .bad e q
    | .good xs => match lexL b with
      | .bad e q => .bad e (q + (a.length + 1))
      | .good ys => .good (xs ++ ys.map (Tok.shift (a.length + 1))) := by
  have h1 : lexL (a ++ 10 :: b) = lexT 0 (a ++ 10 :: b) := by rw [lexL, if_pos (by simp; omega)]
  have h2 : lexL a = lexT 0 a := by rw [lexL, if_pos (by omega)]
  have h3 : lexL b = lexT 0 b := by rw [lexL, if_pos (by omega)]
  rw [h1, h2, h3, lexT_glue]
  cases lexT 0 a with
  | bad e q => rfl
  | good xs =>
    simp only
    rw [show 0 + a.length + 1 = 0 + (a.length + 1) by omega, lexT_shift]
    cases lexT 0 b with
    | bad e q => rfl
    | good ys => rfl

theorem bs_append (a b : ByteArray) : bs (a ++ b) = bs a ++ bs b := by
  show (a ++ b).data.toList = _
  rw [ByteArray.data_append, Array.toList_append]

theorem glue_long (s t : ByteArray) (w : World) (hV : Vars w) (hs : ¬ (s.size ≤ 2000 ∧ t.size ≤ 2000)) : Calls Tryd.prog 6 #[.string s, .string t] w fun e w' => e = .returned (.bool true) ∧ Below w.heap.size w w' := by
  have hwk := Lib.hid (works_any w hV)
  clear hV
  by_cases h1 : s.size ≤ 2000
  · have t0 : decide ((s.size : Int) > 2000) = false := by simp; omega
    have t1 : decide ((t.size : Int) > 2000) = true := by simp; omega
    clear hs
    go_enter Tryd.func6, Tryd.ntmps6
    go_wp2_with fail
    refine hwk.out.mono ?_
    rintro e w1 ⟨rfl, hb1⟩
    have HB1 := Lib.hid hb1
    clear hb1
    go_wp2
    go_ret
    exact ⟨rfl, HB1.out⟩
  · have t0 : decide ((s.size : Int) > 2000) = true := by simp; omega
    clear hs
    go_enter Tryd.func6, Tryd.ntmps6
    go_wp2_with fail
    refine hwk.out.mono ?_
    rintro e w1 ⟨rfl, hb1⟩
    have HB1 := Lib.hid hb1
    clear hb1
    go_wp2
    go_ret
    exact ⟨rfl, HB1.out⟩

theorem lexT_len {p : Nat} {l : List UInt8} {ts : List Tok} (h : lexT p l = .good ts) : ts.length ≤ l.length := by
  rcases lexT_good h with ⟨rfl, _⟩ | ⟨t, us, rfl, _, h3, h4, _, _, _, h5⟩
  · simp
  · have := lexT_len h5
    simp only [List.length_drop] at this
    simp only [List.length_cons]
    omega
termination_by l.length
decreasing_by simp only [List.length_drop]; omega

theorem lexT_pos {p : Nat} {l : List UInt8} {ts : List Tok} (h : lexT p l = .good ts) : ∀ x ∈ ts, x.pos ≤ p + l.length := by
  rcases lexT_good h with ⟨rfl, _⟩ | ⟨t, us, rfl, h2, h3, h4, _, _, _, h5⟩
  · simp
  · intro x hx
    rcases List.mem_cons.1 hx with rfl | hx
    · omega
    · have := lexT_pos h5 x hx
      simp only [List.length_drop] at this
      omega
termination_by l.length
decreasing_by simp only [List.length_drop]; omega

theorem lexL_len {s : ByteArray} {ts : List Tok} (hs : s.size ≤ 2000) (h : lexL (bs s) = .good ts) : ts.length ≤ 2000 := by
  rw [lexL, if_pos (by rw [bs_len]; omega)] at h
  have := lexT_len h
  rw [bs_len] at this
  omega

theorem beqi {a b : Int} (h : a = b) : (a == b) = true := by simpa using h

set_option maxRecDepth 100000 in
set_option maxHeartbeats 8000000 in
theorem lexisGlue_walk (s t : ByteArray) (w : World) (hV : Vars w) : Calls Tryd.prog 6 #[.string s, .string t] w fun e w' => e = .returned (.bool true) ∧ Below w.heap.size w w' := by
  by_cases hs : s.size ≤ 2000 ∧ t.size ≤ 2000
  case neg => exact glue_long s t w hV hs
  obtain ⟨hs, ht⟩ := hs
  have t0 : decide ((s.size : Int) > 2000) = false := by simp; omega
  have t0' : decide ((t.size : Int) > 2000) = false := by simp; omega
  have hgl := lexL_glue (bs s) (bs t) (by rw [bs_len]; exact hs) (by rw [bs_len]; exact ht)
  have hbz : bs (s ++ ⟨#[10]⟩ ++ t) = bs s ++ 10 :: bs t := by rw [bs_append, bs_append]; simp [bs]
  rw [← hbz, bs_len] at hgl
  have hsz : (s ++ ⟨#[10]⟩ ++ t).size = s.size + 1 + t.size := by
    rw [← bs_len, hbz, List.length_append, List.length_cons, bs_len, bs_len]; omega
  have HSZ := Lib.hid hsz
  have HGL := Lib.hid hgl
  have hwk := Lib.hid (works_any w hV)
  have HV := Lib.hid hV
  have hla := Lib.hid (lex_any s)
  have hlb := Lib.hid (lex_any t)
  have hlz := Lib.hid (lex_any (s ++ ⟨#[10]⟩ ++ t))
  clear hV hgl hbz hsz
  go_enter Tryd.func6, Tryd.ntmps6
  go_wp2_with fail
  refine hwk.out.mono ?_
  rintro e w1 ⟨rfl, hb1⟩
  have HB1 := Lib.hid hb1
  have HV1 := Lib.hid (HV.out.b hb1)
  clear hb1
  go_wp2_with fail
  refine (hla.out _ HV1.out).mono ?_
  rintro e w2 ⟨ho, hb2⟩
  have HB2 := Lib.hid (HB1.out.trans (hb2.mono HB1.out.size))
  have HV2 := Lib.hid (HV1.out.b hb2)
  clear hb2
  rw [LexOut] at ho
  cases hA : lexL (bs s) with
  | bad er q =>
    rw [hA] at ho
    subst ho
    have hq := lexT_bad (p := 0) (l := bs s) (e := er) (q := q) (by rw [← hA, lexL, if_pos (by rw [bs_len]; omega)])
    have t1 : (er != 0) = true := by simpa using hq.2.2
    have hz : Hid (lexL (bs (s ++ ⟨#[10]⟩ ++ t)) = .bad er q) := Lib.hid (by rw [HGL.out, hA])
    clear hA hq
    go_wp2_with fail
    refine (hlb.out _ HV2.out).mono ?_
    rintro e w3 ⟨ho, hb3⟩
    have HB3 := Lib.hid (HB2.out.trans (hb3.mono HB2.out.size))
    have HV3 := Lib.hid (HV2.out.b hb3)
    clear hb3
    have hsh : ∃ vb eb qb, e = .returned (.tuple #[vb, .int .i64 eb, .int .i64 qb]) := by
      rw [LexOut] at ho
      cases hB : lexL (bs t) with
      | bad e2 q2 => rw [hB] at ho; exact ⟨_, _, _, ho⟩
      | good ys => rw [hB] at ho; obtain ⟨g, cap, he, _⟩ := ho; exact ⟨_, _, _, he⟩
    obtain ⟨vb, eb, qb, rfl⟩ := hsh
    clear ho
    go_wp2_with (go_at_call 10; refine (hlz.out _ HV3.out).mono ?_; rintro e w4 ⟨ho, hb4⟩; rw [LexOut, hz.out] at ho; subst ho; have HB4 := Lib.hid (HB3.out.trans (hb4.mono HB3.out.size)); clear hb4)
    go_ret
    exact ⟨rfl, HB4.out⟩
  | good xs =>
    rw [hA] at ho
    obtain ⟨gx, cx, rfl, -, hTx⟩ := ho
    have HTx := Lib.hid hTx
    have HA := Lib.hid hA
    clear hTx hA
    go_wp2_with fail
    refine (hlb.out _ HV2.out).mono ?_
    rintro e w3 ⟨ho, hb3⟩
    have HB3 := Lib.hid (HB2.out.trans (hb3.mono HB2.out.size))
    have HV3 := Lib.hid (HV2.out.b hb3)
    replace HTx := Lib.hid (HTx.out.below hb3)
    clear hb3
    rw [LexOut] at ho
    cases hB : lexL (bs t) with
    | bad er q =>
      rw [hB] at ho
      subst ho
      have hq := lexT_bad (p := 0) (l := bs t) (e := er) (q := q) (by rw [← hB, lexL, if_pos (by rw [bs_len]; omega)])
      have t1 : (er != 0) = true := by simpa using hq.2.2
      have hql : q ≤ 65536 := by have := hq.2.1; rw [bs_len] at this; omega
      have hz : Hid (lexL (bs (s ++ ⟨#[10]⟩ ++ t)) = .bad er (q + (s.size + 1))) := Lib.hid (by rw [HGL.out, HA.out, hB])
      have hqe : ((q + (s.size + 1) : Nat) : Int) = (s.size : Int) + 1 + q := by omega
      clear hB hq
      go_wp2_with (go_at_call 10; refine (hlz.out _ HV3.out).mono ?_; rintro e w4 ⟨ho, hb4⟩; rw [LexOut, hz.out] at ho; simp only [hqe] at ho; subst ho; have HB4 := Lib.hid (HB3.out.trans (hb4.mono HB3.out.size)); clear hb4)
      go_ret
      exact ⟨rfl, HB4.out⟩
    | good ys =>
      rw [hB] at ho
      obtain ⟨gy, cy, rfl, -, hTy⟩ := ho
      have HTy := Lib.hid hTy
      have hz : Hid (lexL (bs (s ++ ⟨#[10]⟩ ++ t)) = .good (xs ++ ys.map (Tok.shift (s.size + 1)))) := Lib.hid (by rw [HGL.out, HA.out, hB])
      have HXY := Lib.hid (show xs.length ≤ 2000 ∧ ys.length ≤ 2000 from ⟨lexL_len hs HA.out, lexL_len ht hB⟩)
      have HB0 := Lib.hid hB
      clear hB hTy
      go_upto_region 9 with (go_at_call 10; refine (hlz.out _ HV3.out).mono ?_; rintro e w4 ⟨ho, hb4⟩; rw [LexOut, hz.out] at ho; obtain ⟨gz, cz, rfl, -, hTz⟩ := ho; have HB4 := Lib.hid (HB3.out.trans (hb4.mono HB3.out.size)); replace HTx := Lib.hid (HTx.out.below hb4); replace HTy := Lib.hid (HTy.out.below hb4); have HTz := Lib.hid hTz; clear hb4 hTz)
      have hxL : xs.length ≤ 2000 ∧ ys.length ≤ 2000 := HXY.out
      have t5 : ((xs.length : Int) + ys.length + 1 != (xs.length : Int) + (ys.length + 1)) = false := by rw [bne_eq_false_iff_eq]; omega
      go_wp2_with fail
      go_loopw [15] (fun u wr => ∃ j : Nat, j ≤ xs.length + ys.length + 1 ∧ u = .int .i64 j ∧ Below w4.heap.size w4 wr) (fun u _ => xs.length + ys.length + 1 - (intOf u).toNat)
      case atStart => exact ⟨0, by omega, rfl, Below.refl _ _⟩
      case round =>
        obtain ⟨j, hj, rfl, hb⟩ := hrel
        have HB := Lib.hid (HB4.out.trans (hb.mono HB4.out.size))
        have HBR := Lib.hid hb
        have hTz := HTz.out.below hb
        by_cases hjl : j < xs.length + ys.length + 1
        · have t1 : decide ((j : Int) < (xs.length : Int) + ys.length + 1) = true := by simp; omega
          by_cases hjx : j < xs.length
          · have t2 : decide ((j : Int) < xs.length) = true := by simp; omega
            obtain ⟨x, hx⟩ : ∃ x, xs[j]? = some x := ⟨_, List.getElem?_eq_getElem hjx⟩
            obtain ⟨z0, z1, z2, z3⟩ := hTz.2 j x (by rw [List.getElem?_append_left (by simp; omega), List.getElem?_append_left hjx, hx])
            have hTx := HTx.out.below hb
            obtain ⟨x0, x1, x2, x3⟩ := hTx.2 j x (by rw [List.getElem?_append_left hjx, hx])
            have gxl := hTx.1
            have gzl := hTz.1
            clear hTx hTz hx hb
            go_wp2_with fail
            have hB5 := alloc_below wr (.cells #[.int .i64 x.k, .string (strB x.text), .int .i64 x.n, .int .i64 x.pos] 31)
            have hX5 := heap_alloc_new wr (.cells #[.int .i64 x.k, .string (strB x.text), .int .i64 x.n, .int .i64 x.pos] 31)
            rw [← hB5.cell (p := ⟨gz, j * 4, none⟩) gzl] at z0
            rw [← hB5.cell (p := ⟨gz, j * 4 + 1, none⟩) gzl] at z1
            rw [← hB5.cell (p := ⟨gz, j * 4 + 2, none⟩) gzl] at z2
            rw [← hB5.cell (p := ⟨gz, j * 4 + 3, none⟩) gzl] at z3
            have HF := Lib.hid (HBR.out.trans (hB5.mono HBR.out.size))
            have HX5 := Lib.hid hX5
            clear x0 x1 x2 x3 gxl hB5 hX5
            generalize wr.alloc (.cells #[.int .i64 x.k, .string (strB x.text), .int .i64 x.n, .int .i64 x.pos] 31) = W5 at z0 z1 z2 z3 HF HX5 ⊢
            generalize wr.heap.size = b5 at HX5 ⊢
            obtain ⟨c0, c1, c2, c3, cf, cl⟩ := cells4 HX5.out
            go_region
            go_wp2_with fail
            go_roundw
            case rel => exact ⟨j + 1, by omega, by go_num, HF.out.drew⟩
            case measure => simp [intOf]; omega
          · have t2 : decide ((j : Int) < xs.length) = false := by simp; omega
            obtain ⟨i, hi⟩ : ∃ i, j = xs.length + i := ⟨j - xs.length, by omega⟩
            have hji : (j : Int) - ((xs.length : Int) + 1) + 1 = i := by omega
            obtain ⟨y, hy⟩ : ∃ y, (ys ++ [endTok t])[i]? = some y := ⟨_, List.getElem?_eq_getElem (by simp; omega)⟩
            obtain ⟨z0, z1, z2, z3⟩ := hTz.2 j (Tok.shift (s.size + 1) y) (by
              rw [show endTok (s ++ ⟨#[10]⟩ ++ t) = Tok.shift (s.size + 1) (endTok t) by simp only [endTok, Tok.shift, HSZ.out]; congr 1; omega]
              rw [List.append_assoc, ← List.map_singleton, ← List.map_append, hi, List.getElem?_append_right (by omega), Nat.add_sub_cancel_left, List.getElem?_map, hy]
              rfl)
            simp only [Tok.shift] at z0 z1 z2 z3
            rw [show ((y.pos + (s.size + 1) : Nat) : Int) = (y.pos : Int) + s.size + 1 by omega] at z3
            have hpos : y.pos ≤ 1000000 := by
              have hm := List.mem_of_getElem? hy
              rcases List.mem_append.1 hm with h | h
              · have h1 := lexT_pos (p := 0) (l := bs t) (ts := ys) (by rw [← HB0.out, lexL, if_pos (by rw [bs_len]; omega)]) y h
                rw [bs_len] at h1
                omega
              · simp only [List.mem_singleton] at h
                rw [h, endTok]
                show t.size ≤ 1000000
                omega
            have hTy := HTy.out.below hb
            obtain ⟨x0, x1, x2, x3⟩ := hTy.2 i y hy
            have gxl := hTy.1
            have gzl := hTz.1
            have hil : i < ys.length + 1 := by omega
            clear hTy hTz hy hb hi
            go_upto_region 23 with fail
            have hB5 := alloc_below wr (.cells #[.int .i64 y.k, .string (strB y.text), .int .i64 y.n, .int .i64 ((y.pos : Int) + s.size + 1)] 31)
            have hX5 := heap_alloc_new wr (.cells #[.int .i64 y.k, .string (strB y.text), .int .i64 y.n, .int .i64 ((y.pos : Int) + s.size + 1)] 31)
            rw [← hB5.cell (p := ⟨gz, j * 4, none⟩) gzl] at z0
            rw [← hB5.cell (p := ⟨gz, j * 4 + 1, none⟩) gzl] at z1
            rw [← hB5.cell (p := ⟨gz, j * 4 + 2, none⟩) gzl] at z2
            rw [← hB5.cell (p := ⟨gz, j * 4 + 3, none⟩) gzl] at z3
            have HF := Lib.hid (HBR.out.trans (hB5.mono HBR.out.size))
            have HX5 := Lib.hid hX5
            clear x0 x1 x2 x3 gxl hB5 hX5
            generalize wr.alloc (.cells #[.int .i64 y.k, .string (strB y.text), .int .i64 y.n, .int .i64 ((y.pos : Int) + s.size + 1)] 31) = W5 at z0 z1 z2 z3 HF HX5 ⊢
            generalize wr.heap.size = b5 at HX5 ⊢
            obtain ⟨c0, c1, c2, c3, cf, cl⟩ := cells4 HX5.out
            go_region
            go_wp2_with fail
            go_roundw
            case rel => exact ⟨j + 1, by omega, by go_num, HF.out.drew⟩
            case measure => simp [intOf]; omega
        · have t1 : decide ((j : Int) < (xs.length : Int) + ys.length + 1) = false := by simp; omega
          clear hTz hb
          go_wp2
          go_ret
          exact ⟨rfl, HB.out⟩

set_option maxRecDepth 100000 in
theorem lexisGlue_lifted (os : Os) (started : os.Started) (H : Type) (enc : TypeId × Value → H) :
    ReturnsInHanded {} Tryd.checked os 6 .any (fun w args => (Rows.lexisGlueSpec.pre enc Tryd.prog Tryd.f6 [] false w args ∧ laidMetH Tryd.prog laid7 w) ∧ sizedMet enc Tryd.prog Tryd.f6 (OpenSpec.ofChange Rows.lexisGlueSpec) false w args)
      (Rows.lexisGlueSpec.post enc Tryd.prog Tryd.f6 false true false false) := by
  refine returnsInHanded_of_change_and (C := Tryd.checked) (X := fun w _ => laidMetH Tryd.prog laid7 w) (fun _ _ _ hh h => h.of_heap hh) own started (by kernel_rfl) Tryd.func6
    (ChangeSpec.witness_shaped (enc := enc) (C := Tryd.checked) (os := os) (X := fun w _ => laidMetH Tryd.prog laid7 w) false (World.doorLaid Tryd.prog 400 os) #[.string ⟨#[]⟩, .string ⟨#[]⟩] 8 rfl (World.shaped_of_RefB (by kernel_rfl) (by kernel_rfl)) (by kernel_rfl) (by kernel_rfl) (by kernel_rfl) (door_met os _)) ?_
  intro W base args ds gs before hval0 hW _ _ hL _
  have hval : ∀ (j : Nat) t v, Tryd.f6.params[j]? = some t → args[j]? = some v → Value.okWide Tryd.prog W .any base t v := hval0
  have hW' := hW
  obtain ⟨p, q, hA0, hV, rfl, hfz, hnd⟩ := hW
  have hA : DataW.TrodAll enc Tryd.prog W 0 (fun _ => true) true Tryd.f6.params.toList args.toList ds p := hA0
  rw [Tryd.params6] at hA hval
  obtain ⟨v0, vs0, d0, ds0, p0, q0, hargs, rfl, rfl, h0, r0⟩ := trodAll_cons hA
  obtain ⟨v1, vs1, d1, ds1, p1, q1, rfl, rfl, rfl, h1, r1⟩ := trodAll_cons r0
  obtain ⟨rfl, rfl, rfl⟩ := trodAll_nil r1
  obtain rfl : args = #[v0, v1] := by cases args; simp_all
  obtain ⟨rfl, rfl⟩ := trodVars_none hV
  obtain ⟨s0, rfl, rfl, rfl, -⟩ := Go.ChangeMaps.open_string Tryd.underlying9 (hval 0 9 v0 rfl rfl) h0
  obtain ⟨s1, rfl, rfl, rfl, -⟩ := Go.ChangeMaps.open_string Tryd.underlying9 (hval 1 9 v1 rfl rfl) h1
  refine (lexisGlue_walk s0 s1 W (of_laid hL) ).mono fun e W' ⟨he, hb⟩ => ?_
  subst he
  exact ⟨_, rfl, law_post rfl rfl (by kernel_rfl) rfl hW' hb⟩

set_option maxRecDepth 100000 in
theorem lexisGlue_holds : Rows.LexisGlueSaid :=
  OpenClaim.holds_of_wide 6 Tryd.f6 rfl rfl rfl rfl rfl rfl rfl ⟨rfl, rfl, rfl, rfl, rfl⟩ rfl rfl rfl rfl rfl (by kernel_rfl) Tryd.func6 (by kernel_rfl)
    (of_decide_eq_true (by kernel_rfl)) (by unfold Func.isWrapper; first | (rw [if_pos (by decide +kernel)]; kernel_rfl) | (rw [if_neg (by decide +kernel)]; exact ⟨rfl, rfl⟩))
    (fun os started H enc _ => lexisGlue_lifted os started H enc)

set_option maxRecDepth 100000 in
theorem lexisGlue_card : Rows.LexisGlueCardSaid :=
  Claim7.holds_tied_plain_at .later [] [.data, .data, .data, .sentinel, .sentinel, .data, .data] true (true, "ddda70d33019e87f0703c012108ef98b898999fa982d023941ef7c674db79b79") true
    lexisGlue_holds (fun _ h => by cases h) (by kernel_rfl) (fun _ h => by cases h) lexisGlue_row_tie rfl ⟨rfl, rfl⟩ (by kernel_rfl) rfl
    (fun f fn hf hfn => by
      obtain rfl : f = 6 := Option.some.inj ((show Tryd.prog.funcNamed "cocoon/cocoonlaw04.LexisGlue" = some 6 by kernel_rfl).symm.trans hf) |>.symm
      obtain rfl : fn = Tryd.f6 := (Option.some.inj (Tryd.func6.symm.trans hfn)).symm
      exact ⟨by kernel_rfl, fun j t ht => by
        rw [Tryd.params6] at ht
        have hm : t ∈ [9, 9] := by simpa using Array.mem_of_getElem? ht
        have hall : ([9, 9].all fun u => !Tryd.prog.wantsStandIn u) = true := by kernel_rfl
        exact (show Tryd.prog.wantsStandIn t = false by simpa using List.all_eq_true.1 hall t hm)⟩)
    (by kernel_rfl)
end Go.Proofs.YthhkndnmeafanaaDoor
