/-
  MemFreed answers true for every input. No conditions.
-/
import Derived.Test.YtbcockaleegicaaApart
namespace Go.Proofs.Ytbcockaleegicaa
open Go.RowKit Go.ChangeShapes Go.WideShapes Go.ChangeAt

theorem findE_freed {S : MS} {k : Nat} (h : S.at k = none) (hk : k < S.blocks.length) : findE S true ((k : Int) + 1) = 12 := by
  unfold findE
  rw [if_neg (by simp), if_neg (by omega), show ((k : Int) + 1 - 1).toNat = k by omega, h]
theorem spanE_err {S : MS} {b : Bool} {a : Int} {er : Int} (h : findE S b a = er) (hne : er ≠ 0) (n c : Int) : spanE S b a n c = er := by
  unfold spanE
  rw [h, if_pos hne]
theorem storedE_err {S : MS} {b : Bool} {a : Int} {er : Int} (h : findE S b a = er) (hne : er ≠ 0) (n c : Int) (hc : c ≠ 0) : storedE S b a n c = er := by
  unfold storedE
  rw [if_neg hc, h, if_pos hne]
theorem loadR_err {S : MS} {b : Bool} {a : Int} {er : Int} (h : findE S b a = er) (hne : er ≠ 0) (n : Int) : loadR S b a n = (⟨false, 0, 0⟩, er) := by
  unfold loadR
  rw [storedE_err h hne n 1 (by decide), if_pos hne]

theorem copy_fail0 {w : World} {mb : Nat} {lm : Option Nat} {loc : Nat → Nat} {S : MS} (R : RepAt w mb lm loc S) (b b' : Bool) (a n a' n' : Int) (er : Int) (he : spanE S b a n 0 = er) (hne : er ≠ 0) (hn : n ≤ 9223372036854775807) :
    Calls Try.prog 23 #[.pointer (some ⟨mb, 0, none⟩), .agg #[.bool b, .int .i64 a, .int .i64 n], .agg #[.bool b', .int .i64 a', .int .i64 n'], .int .i64 0] w fun e w' => e = .returned (.int .i64 er) ∧ Below w.heap.size w w' :=
  copy_fail2 R b b' a n a' n' 0 er rfl he hne hn (by decide)

set_option maxRecDepth 100000 in
set_option maxHeartbeats 800000 in
theorem memFreed_main (r n : Nat) (p : Bool) (xa xn : Int) (more : Int) (w : World) (hr : r ≤ 1000) (hn : n ≤ r) :
    Calls Try.prog 6 #[.int .i64 r, .int .i64 n, .agg #[.bool p, .int .i64 xa, .int .i64 xn], .int .i64 more] w fun e w' => e = .returned (.bool true) ∧ Below w.heap.size w w' := by
  have t1 : decide ((r : Int) < 0) = false := by simp
  have t2 : decide ((1000 : Int) < r) = false := by simp; omega
  have t3 : decide ((n : Int) < 0) = false := by simp
  have t4 : decide ((r : Int) < n) = false := by simp; omega
  go_enter Try.func6, Try.ntmps6
  go_wp2_with fail
  refine (works_any _).mono ?_
  rintro e w1 ⟨rfl, hb1⟩
  have vw := (Var.mk w p xa xn).below hb1
  have hB := box_below hb1
  go_wp2_with fail
  refine (new_any r r _ (by omega)).mono ?_
  rintro e w2 ⟨rfl, R2, hb2, hz2⟩
  obtain ⟨T2, F2⟩ := St.new hB hB.size R2 hb2
  have lw : Loc w2 _ _ _ _ _ _ _ _ := ⟨vw.below hb2, F2 _ vw.lt⟩
  generalize hmb : w1.heap.size = mb at R2 T2 F2 lw ⊢
  clear hmb vw hb1 F2
  go_wp2_with fail
  refine (alloc_any R2 n 1 (by omega) (by show (n : Int) ≤ r - 0; omega) (by show 0 + 1 < 1000; decide) rfl).mono ?_
  rintro e w3 ⟨rfl, ht⟩
  obtain ⟨lm3, loc3, T3, F3, K3⟩ := T2.turned ht
  rw [Int.toNat_natCast] at T3 F3
  replace lw := lw.turned F3 K3
  clear ht F3 K3
  have lp := Loc.mk' T3 true 1 0
  generalize hS1 : MS.push ⟨r, []⟩ n = S1 at T3 lw lp
  have HA0 := Lib.hid (show S1.at 0 = some (List.replicate n none) by rw [← hS1, at_push]; rfl)
  have HL := Lib.hid (show S1.blocks.length = 1 by rw [← hS1, push_len]; rfl)
  have HW := Lib.hid (show S1.words = n by rw [← hS1, words_push]; exact Nat.zero_add n)
  have HV := Lib.hid (show S1.live = 1 by rw [← hS1, live_push]; rfl)
  have HR := Lib.hid (show S1.room = r by rw [← hS1]; rfl)
  clear hS1
  obtain ⟨p0, p1, p2, p3⟩ := lp.cells
  go_wp2_with fail
  refine (free_is (T3.alloc _).rep true 1 0 0 _ rfl rfl rfl HA0.out).mono ?_
  rintro e w4 ⟨rfl, ht⟩
  obtain ⟨lm4, loc4, T4, F4, K4⟩ := (T3.alloc _).turned ht
  replace lw := (lw.alloc _).turned F4 K4
  replace lp := lp.turned F4 K4
  generalize w3.heap.size = bp at lp ⊢
  clear ht F4 K4
  generalize hS2 : MS.setb S1 0 none = S2 at T4 lw lp
  have HB0 := Lib.hid (show S2.at 0 = none by rw [← hS2, at_setb _ _ _ (by rw [HL.out]; decide), if_pos rfl])
  have HL2 := Lib.hid (show S2.blocks.length = 1 by rw [← hS2, setb_len]; exact HL.out)
  have hw2 : S2.words = 0 := by have h := words_none (S := S1) HA0.out; rw [hS2, HW.out, List.length_replicate] at h; omega
  have hv2 : S2.live = 0 := by have h := live_none' (S := S1) HA0.out; rw [hS2, HV.out] at h; omega
  have HR2 := Lib.hid (show S2.room = r by rw [← hS2]; exact HR.out)
  clear hS2 HA0 HL HW HV HR
  have W4 := words_any T4.rep
  have L4 := live_any T4.rep
  rw [hw2] at W4
  rw [hv2] at L4
  have HW2 := Lib.hid hw2
  clear hw2 hv2
  have HC := Lib.hid W4
  have HD := Lib.hid L4
  clear W4 L4
  go_wp2_with fail
  refine HC.out.mono ?_
  rintro e w5 ⟨rfl, rfl⟩
  go_wp2_with fail
  refine HD.out.mono ?_
  rintro e w5 ⟨rfl, rfl⟩
  have hfe : findE S2 true 1 = 12 := findE_freed (k := 0) HB0.out (by rw [HL2.out]; decide)
  have HF := Lib.hid hfe
  clear hfe HC HD
  obtain ⟨p0, p1, p2, p3⟩ := lp.cells
  go_wp2_with fail
  refine (load_any T4.rep true 1 0 ⟨false, 0, 0⟩ 12 (loadR_err HF.out (by decide) 0)).mono ?_
  rintro e w5 ⟨rfl, hb5⟩
  have T5 := T4.next hb5
  replace lw := lw.next hb5
  replace lp := lp.next hb5
  go_wp2_with fail
  refine (alloc_any (T5.alloc _).rep n 2 (by omega) (by rw [HR2.out, HW2.out]; omega) (by rw [HL2.out]; decide) (by rw [HL2.out]; rfl)).mono ?_
  rintro e w6 ⟨rfl, ht⟩
  obtain ⟨lm6, loc6, T6, F6, K6⟩ := (T5.alloc _).turned ht
  rw [Int.toNat_natCast] at T6 F6
  replace lw := (lw.alloc _).turned F6 K6
  replace lp := (lp.alloc _).turned F6 K6
  clear ht F6 K6
  have lq := Loc.mk' T6 true 2 0
  generalize hS3 : MS.push S2 n = S3 at T6 lw lp lq
  have HC0 := Lib.hid (show S3.at 0 = none by rw [← hS3, at_push, if_neg (by rw [HL2.out]; decide)]; exact HB0.out)
  have HL3 := Lib.hid (show S3.blocks.length = 2 by rw [← hS3, push_len, HL2.out])
  have HW3 := Lib.hid (show S3.words = n by rw [← hS3, words_push, HW2.out]; exact Nat.zero_add n)
  have HR3 := Lib.hid (show S3.room = r by rw [← hS3]; exact HR2.out)
  have HF3 := Lib.hid (show findE S3 true 1 = 12 from findE_freed (k := 0) HC0.out (by rw [HL3.out]; decide))
  clear hS3 HB0 HL2 HW2 HR2 HF
  obtain ⟨p0, p1, p2, p3⟩ := lp.cells
  obtain ⟨u0, u1, u2, u3⟩ := lw.cells
  go_wp2_with fail
  refine (store_fail (T6.alloc _).rep true 1 0 12 ⟨p, xa, xn⟩ (spanE_err HF3.out (by decide) 0 1) (by decide) (by decide)).mono ?_
  rintro e w7 ⟨rfl, hb7⟩
  have T7 := (T6.alloc _).next hb7
  replace lp := (lp.alloc _).next hb7
  replace lq := lq.next hb7
  generalize w6.heap.size = bq at lq ⊢
  clear lw
  obtain ⟨p0, p1, p2, p3⟩ := lp.cells
  go_wp2_with fail
  refine (free_err T7.rep true 1 0 12 HF3.out (by decide)).mono ?_
  rintro e w8 ⟨rfl, hb8⟩
  have T8 := T7.next hb8
  replace lp := lp.next hb8
  replace lq := lq.next hb8
  obtain ⟨p0, p1, p2, p3⟩ := lp.cells
  go_wp2_with fail
  refine (clear_fail T8.rep true 1 0 0 12 (spanE_err HF3.out (by decide) 0 0) (by decide) (by decide) (by decide)).mono ?_
  rintro e w9 ⟨rfl, hb9⟩
  have T9 := T8.next hb9
  replace lp := lp.next hb9
  replace lq := lq.next hb9
  obtain ⟨p0, p1, p2, p3⟩ := lp.cells
  obtain ⟨q0, q1, q2, q3⟩ := lq.cells
  go_wp2_with fail
  refine (copy_fail0 T9.rep true true 1 0 2 0 12 (spanE_err HF3.out (by decide) 0 0) (by decide) (by decide)).mono ?_
  rintro e w10 ⟨rfl, hb10⟩
  have T10 := T9.next hb10
  replace lp := lp.next hb10
  clear lq
  go_wp2_with fail
  refine (alloc_room T10.rep ((r : Int) - n + 1) (by omega) (by rw [HR3.out, HW3.out]; omega)).mono ?_
  rintro e w11 ⟨rfl, hb11⟩
  have T11 := T10.next hb11
  replace lp := lp.next hb11
  have m0 : (0 : Int) ≤ r - n := by omega
  rcases (show more < 0 ∨ (0 ≤ more ∧ more ≤ (r : Int) - n) ∨ (r : Int) - n < more by omega) with m1 | ⟨m1, m2⟩ | m1
  all_goals go_wp2_with fail
  all_goals
    refine (alloc_any (T11.alloc _).rep _ 3 (by omega) (by rw [HR3.out, HW3.out]; omega) (by rw [HL3.out]; decide) (by rw [HL3.out]; rfl)).mono ?_
    rintro e w12 ⟨rfl, ht⟩
    obtain ⟨lm12, loc12, T12, F12, K12⟩ := (T11.alloc _).turned ht
    have lp2 := (lp.alloc _).turned F12 K12
    clear ht F12 K12
    have hne3 : ¬ (0 : Nat) = S3.blocks.length := by rw [HL3.out]; decide
    generalize hS4 : MS.push S3 (Int.toNat _) = S4 at T12 lp2
    have hd0 : S4.at 0 = none := by rw [← hS4, at_push, if_neg hne3]; exact HC0.out
    have hd1 : S4.blocks.length = 3 := by rw [← hS4, push_len, HL3.out]
    have HF4 := Lib.hid (findE_freed (k := 0) hd0 (by rw [hd1]; decide))
    clear hd0 hd1 hS4
    have HS4 := Lib.hid (storedE_err HF4.out (by decide) 0 1 (by decide))
    obtain ⟨p0, p1, p2, p3⟩ := lp2.cells
    go_wp2_with fail
    refine (set_is (T12.alloc _).rep true 1 0 12 false HS4.out rfl).mono ?_
    rintro e w13 ⟨rfl, hb13⟩
    have T13 := (T12.alloc _).next hb13
    go_wp2
    go_ret
    exact ⟨rfl, T13.below⟩

set_option maxRecDepth 100000 in
set_option maxHeartbeats 2000000 in
theorem memFreed_out (r n : Int) (p : Bool) (xa xn : Int) (more : Int) (w : World) (h : r < 0 ∨ 1000 < r ∨ n < 0 ∨ r < n) :
    Calls Try.prog 6 #[.int .i64 r, .int .i64 n, .agg #[.bool p, .int .i64 xa, .int .i64 xn], .int .i64 more] w fun e w' => e = .returned (.bool true) ∧ Below w.heap.size w w' := by
  by_cases c0 : r < 0
  · have t0 : decide (r < 0) = true := by simp; omega
    go_enter Try.func6, Try.ntmps6
    go_wp2_with fail
    refine (works_any _).mono ?_
    rintro e w1 ⟨rfl, hb1⟩
    go_wp2
    go_ret
    exact ⟨rfl, box_below hb1⟩
  have t0 : decide (r < 0) = false := by simp; omega
  by_cases c1 : 1000 < r
  · have t1 : decide (1000 < r) = true := by simp; omega
    go_enter Try.func6, Try.ntmps6
    go_wp2_with fail
    refine (works_any _).mono ?_
    rintro e w1 ⟨rfl, hb1⟩
    go_wp2
    go_ret
    exact ⟨rfl, box_below hb1⟩
  have t1 : decide (1000 < r) = false := by simp; omega
  by_cases c2 : n < 0
  · have t2 : decide (n < 0) = true := by simp; omega
    go_enter Try.func6, Try.ntmps6
    go_wp2_with fail
    refine (works_any _).mono ?_
    rintro e w1 ⟨rfl, hb1⟩
    go_wp2
    go_ret
    exact ⟨rfl, box_below hb1⟩
  have t2 : decide (n < 0) = false := by simp; omega
  by_cases c3 : r < n
  · have t3 : decide (r < n) = true := by simp; omega
    go_enter Try.func6, Try.ntmps6
    go_wp2_with fail
    refine (works_any _).mono ?_
    rintro e w1 ⟨rfl, hb1⟩
    go_wp2
    go_ret
    exact ⟨rfl, box_below hb1⟩
  have t3 : decide (r < n) = false := by simp; omega
  omega

theorem memFreed_walk (r n : Int) (p : Bool) (xa xn : Int) (more : Int) (w : World) :
    Calls Try.prog 6 #[.int .i64 r, .int .i64 n, .agg #[.bool p, .int .i64 xa, .int .i64 xn], .int .i64 more] w fun e w' => e = .returned (.bool true) ∧ Below w.heap.size w w' := by
  by_cases h : r < 0 ∨ 1000 < r ∨ n < 0 ∨ r < n
  · exact memFreed_out r n p xa xn more w h
  · obtain ⟨N, rfl⟩ : ∃ N : Nat, n = N := ⟨n.toNat, by omega⟩
    obtain ⟨K, rfl⟩ : ∃ K : Nat, r = K := ⟨r.toNat, by omega⟩
    exact memFreed_main K N p xa xn more w (by omega) (by omega)

theorem memFreed_lifted (os : Os) (started : os.Started) (H : Type) (enc : TypeId × Value → H) :
    ReturnsInHanded {} Try.checked os 6 .any (Rows.memFreedSpec.pre6 enc Try.prog Try.f6 Rows.memFreedRow.domain false) (Rows.memFreedSpec.post enc Try.prog Try.f6 false true false false) := by
  refine returnsInHanded_of_change (C := Try.checked) own started (by kernel_rfl) Try.func6
    (ChangeSpec.witness6 (enc := enc) (C := Try.checked) false ⟨#[], #[.int .i64 0, .int .i64 0, .agg #[.bool false, .int .i64 0, .int .i64 0], .int .i64 0], []⟩ 8 (by kernel_rfl) (by kernel_rfl) (by kernel_rfl) (by kernel_rfl)) ?_
  intro W base args ds gs before hval0 hW _ _
  have hval : ∀ (j : Nat) t v, Try.f6.params[j]? = some t → args[j]? = some v → Value.okWide Try.prog W .any base t v := hval0
  have hW' := hW
  obtain ⟨p, q, hA0, hV, rfl, hfz, hnd⟩ := hW
  have hA : DataW.TrodAll enc Try.prog W 0 (fun _ => true) true Try.f6.params.toList args.toList ds p := hA0
  rw [Try.params6] at hA hval
  obtain ⟨v0, vs0, d0, ds0, p0, q0, hargs, rfl, rfl, h0, r0⟩ := trodAll_cons hA
  obtain ⟨v1, vs1, d1, ds1, p1, q1, rfl, rfl, rfl, h1, r1⟩ := trodAll_cons r0
  obtain ⟨v2, vs2, d2, ds2, p2, q2, rfl, rfl, rfl, h2, r2⟩ := trodAll_cons r1
  obtain ⟨v3, vs3, d3, ds3, p3, q3, rfl, rfl, rfl, h3, r3⟩ := trodAll_cons r2
  obtain ⟨rfl, rfl, rfl⟩ := trodAll_nil r3
  obtain rfl : args = #[v0, v1, v2, v3] := by cases args; simp_all
  obtain ⟨rfl, rfl⟩ := trodVars_none hV
  obtain ⟨r, rfl, rfl, rfl, wr⟩ := open_int Try.underlying3 (hval 0 3 v0 rfl rfl) h0
  obtain ⟨n, rfl, rfl, rfl, wn⟩ := open_int Try.underlying3 (hval 1 3 v1 rfl rfl) h1
  obtain ⟨b, xa, xn, rfl, wa, wxn, rfl⟩ := open_word (hval 2 30 v2 rfl rfl) h2
  obtain ⟨more, rfl, rfl, rfl, wm⟩ := open_int Try.underlying3 (hval 3 3 v3 rfl rfl) h3
  refine (memFreed_walk r n b xa xn more W).mono fun e W' ⟨he, hb⟩ => ?_
  subst he
  exact ⟨_, rfl, law_post rfl rfl (by kernel_rfl) rfl hW' hb⟩

theorem memFreed_holds : Rows.MemFreedSaid :=
  OpenClaim.holds_of_wide 6 Try.f6 rfl rfl rfl rfl rfl rfl rfl ⟨rfl, rfl, rfl, rfl, rfl⟩ rfl rfl rfl rfl rfl (by kernel_rfl) Try.func6 (by kernel_rfl)
    (of_decide_eq_true (by kernel_rfl)) (by unfold Func.isWrapper; first | (rw [if_pos (by decide +kernel)]; kernel_rfl) | (rw [if_neg (by decide +kernel)]; exact ⟨rfl, rfl⟩))
    (fun os started H enc _ => memFreed_lifted os started H enc)
end Go.Proofs.Ytbcockaleegicaa
