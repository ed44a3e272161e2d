/-
  MemApart answers true for every input. No conditions.
-/
import Derived.Test.YtbcockaleegicaaWorks
import Derived.Test.YtbcockaleegicaaFree
import Derived.Test.YtbcockaleegicaaCopy
import Derived.Test.YtbcockaleegicaaClose
namespace Go.Proofs.Ytbcockaleegicaa
open Go.RowKit Go.ChangeShapes Go.WideShapes Go.ChangeAt

theorem storedE_get {S : MS} {k : Nat} {l : List Cl} (hl : S.at k = some l) (n : Nat) : storedE S true ((k : Int) + 1) n 1 = match l[n]? with | none => 13 | some none => 14 | some (some _) => 0 := by
  rw [storedE_at hl _ _ (by omega)]
  have hd := scanE_drop l n 1 0 (by omega)
  simp only [Nat.add_zero, Nat.sub_zero] at hd
  by_cases h : n < l.length
  · rw [if_neg (by omega)]
    show scanE (List.drop ((n : Int)).toNat l) 1 = _
    rw [Int.toNat_natCast, hd]
    cases l[n]? with
    | none => rfl
    | some c =>
      cases c with
      | none => rfl
      | some x => cases List.drop (n + (0 + 1)) l <;> rfl
  · rw [if_pos (by omega), List.getElem?_eq_none (by omega)]

theorem loadR_get {S : MS} {k : Nat} {l : List Cl} (hl : S.at k = some l) (n : Nat) : loadR S true ((k : Int) + 1) n = match l[n]? with | none => (⟨false, 0, 0⟩, 13) | some none => (⟨false, 0, 0⟩, 14) | some (some x) => (x, 0) := by
  unfold loadR
  rw [storedE_get hl, show ((k : Int) + 1 - 1).toNat = k by omega, hl]
  simp only [Int.toNat_natCast]
  cases l[n]? with
  | none => rfl
  | some c => cases c <;> rfl

theorem push_len (S : MS) (n : Nat) : (S.push n).blocks.length = S.blocks.length + 1 := by simp [MS.push]
theorem setb_len (S : MS) (k : Nat) (o : Option (List Cl)) : (S.setb k o).blocks.length = S.blocks.length := by simp [MS.setb]

theorem set_is {w : World} {mb : Nat} {lm : Option Nat} {loc : Nat → Nat} {S : MS} (R : RepAt w mb lm loc S) (b : Bool) (a n er : Int) (v : Bool) (h : storedE S b a n 1 = er) (hv : v = decide (er = 0)) :
    Calls Try.prog 31 #[.pointer (some ⟨mb, 0, none⟩), .agg #[.bool b, .int .i64 a, .int .i64 n]] w fun e w' => e = .returned (.bool v) ∧ Below w.heap.size w w' := by
  subst h hv
  exact set_any R b a n
theorem free_is {w : World} {mb : Nat} {lm : Option Nat} {loc : Nat → Nat} {S : MS} (R : RepAt w mb lm loc S) (b : Bool) (a n : Int) (k : Nat) (l : List Cl) (hb : b = true) (ha : a = (k : Int) + 1) (hn : n = 0) (hl : S.at k = some l) :
    Calls Try.prog 17 #[.pointer (some ⟨mb, 0, none⟩), .agg #[.bool b, .int .i64 a, .int .i64 n]] w fun e w' => e = .returned (.int .i64 0) ∧ Turned w w' mb lm loc S (S.setb k none) := by
  subst hb ha hn
  exact free_ok R k l hl
theorem loadR_val {S : MS} {k : Nat} {l : List Cl} (hl : S.at k = some l) (n : Nat) (x : Wd) (hx : l[n]? = some (some x)) (a : Int) (ha : a = (k : Int) + 1) (m : Int) (hm : m = n) : loadR S true a m = (x, 0) := by
  subst ha hm
  rw [loadR_get hl, hx]

set_option maxRecDepth 100000 in
set_option maxHeartbeats 1000000 in
theorem memApart_main (n k i : Nat) (p : Bool) (xa xn : Int) (q : Bool) (ya yn : Int) (w : World) (hn : n ≤ 100) (hk : k ≤ 100) (hi : i < n) (hi' : i < k) :
    Calls Try.prog 9 #[.int .i64 n, .int .i64 k, .int .i64 i, .agg #[.bool p, .int .i64 xa, .int .i64 xn], .agg #[.bool q, .int .i64 ya, .int .i64 yn]] w fun e w' => e = .returned (.bool true) ∧ Below w.heap.size w w' := by
  have t1 : decide ((n : Int) < 1) = false := by simp; omega
  have t2 : decide ((100 : Int) < n) = false := by simp; omega
  have t3 : decide ((k : Int) < 1) = false := by simp; omega
  have t4 : decide ((100 : Int) < k) = false := by simp; omega
  have t5 : decide ((i : Int) < 0) = false := by simp
  have t6 : decide ((n : Int) ≤ i) = false := by simp; omega
  have t7 : decide ((k : Int) ≤ i) = false := by simp; omega
  go_enter Try.func9, Try.ntmps9
  go_wp2_with fail
  refine (works_any _).mono ?_
  rintro e w1 ⟨rfl, hb1⟩
  have vw := ((Var.mk w p xa xn).alloc (.cells #[.bool q, .int .i64 ya, .int .i64 yn] 30)).below hb1
  have vv := (Var.mk (w.alloc (.cells #[.bool p, .int .i64 xa, .int .i64 xn] 30)) q ya yn).below hb1
  have hB := box2_below hb1
  go_wp2_with fail
  refine (new_any 500 500 _ rfl).mono ?_
  rintro e w2 ⟨rfl, R2, hb2, hz2⟩
  obtain ⟨T2, F2⟩ := St.new hB hB.size R2 hb2
  have lw : Loc w2 _ _ _ _ _ _ _ _ := ⟨vw.below hb2, F2 _ vw.lt⟩
  have lv : Loc w2 _ _ _ _ _ _ _ _ := ⟨vv.below hb2, F2 _ vv.lt⟩
  generalize hmb : w1.heap.size = mb at R2 T2 F2 lw lv ⊢
  clear hmb vw vv hb1
  have hsz : (w.alloc (.cells #[.bool p, .int .i64 xa, .int .i64 xn] 30)).heap.size = w.heap.size + 1 := by simp
  rw [hsz] at lv
  clear hsz
  go_wp2_with fail
  refine (alloc_any R2 n 1 (by omega) (by show (n : Int) ≤ 500 - 0; omega) (by decide) rfl).mono ?_
  rintro e w3 ⟨rfl, ht⟩
  obtain ⟨lm3, loc3, T3, F3, K3⟩ := T2.turned ht
  replace lw := lw.turned F3 K3
  replace lv := lv.turned F3 K3
  clear ht F2
  rw [Int.toNat_natCast] at T3 F3 lw lv
  have lp := Loc.mk' T3 true 1 0
  go_wp2_with fail
  refine (alloc_any (T3.alloc _).rep k 2 (by omega) (by rw [words_push]; show (k : Int) ≤ 500 - ((0 + n : Nat) : Int); omega) (by rw [push_len]; decide) (by rw [push_len]; rfl)).mono ?_
  rintro e w4 ⟨rfl, ht⟩
  obtain ⟨lm4, loc4, T4, F4, K4⟩ := (T3.alloc _).turned ht
  replace lw := (lw.alloc _).turned F4 K4
  replace lv := (lv.alloc _).turned F4 K4
  replace lp := lp.turned F4 K4
  clear ht F3 K3
  rw [Int.toNat_natCast] at T4 F4 lw lv lp
  have lq := Loc.mk' T4 true 2 0
  generalize w3.heap.size = bp at lp ⊢
  generalize hS2 : MS.push (MS.push ⟨500, []⟩ n) k = S2 at T4 F4 lw lv lp lq
  have hA0 : S2.at 0 = some (List.replicate n none) := by rw [← hS2, at_push, if_neg (by rw [push_len]; decide), at_push]; rfl
  have hA1 : S2.at 1 = some (List.replicate k none) := by rw [← hS2, at_push, if_pos (by rw [push_len]; rfl)]
  have hL : S2.blocks.length = 2 := by rw [← hS2, push_len, push_len]; rfl
  have HA0 := Lib.hid hA0
  have HA1 := Lib.hid hA1
  have HL := Lib.hid hL
  clear hS2 hA0 hA1 hL
  obtain ⟨p0, p1, p2, p3⟩ := lp.cells
  go_wp2_with fail
  refine (off_any true 1 0 i _ (by omega) rfl).mono ?_
  rintro e w5 ⟨rfl, hb5⟩
  have T5 := (T4.alloc _).next hb5
  replace lw := (lw.alloc _).next hb5
  replace lv := (lv.alloc _).next hb5
  replace lp := (lp.alloc _).next hb5
  replace lq := lq.next hb5
  generalize w4.heap.size = bq at lq ⊢
  clear F4 K4
  have lx := Loc.mk' T5 true 1 i
  obtain ⟨p0, p1, p2, p3⟩ := lq.cells
  go_wp2_with fail
  refine (off_any true 2 0 i _ (by omega) rfl).mono ?_
  rintro e w6 ⟨rfl, hb6⟩
  have T6 := (T5.alloc _).next hb6
  replace lw := (lw.alloc _).next hb6
  replace lv := (lv.alloc _).next hb6
  replace lp := (lp.alloc _).next hb6
  replace lq := (lq.alloc _).next hb6
  replace lx := lx.next hb6
  generalize w5.heap.size = bx at lx ⊢
  have ly := Loc.mk' T6 true 2 i
  obtain ⟨x0, x1, x2, x3⟩ := lx.cells
  obtain ⟨u0, u1, u2, u3⟩ := lw.cells
  go_wp2_with fail
  refine (store_any (T6.alloc _).rep true 1 i p xa xn 0 i _ rfl rfl rfl HA0.out (by simpa using hi)).mono ?_
  rintro e w7 ⟨rfl, ht⟩
  obtain ⟨lm7, loc7, T7, F7, K7⟩ := (T6.alloc _).turned ht
  replace lw := (lw.alloc _).turned F7 K7
  replace lp := (lp.alloc _).turned F7 K7
  replace lv := (lv.alloc _).turned F7 K7
  replace lq := (lq.alloc _).turned F7 K7
  replace lx := (lx.alloc _).turned F7 K7
  replace ly := ly.turned F7 K7
  generalize w6.heap.size = bz at ly ⊢
  clear ht F7 K7
  generalize hS3 : MS.setb S2 0 (some ((List.replicate n none).set i (some ⟨p, xa, xn⟩))) = S3 at T7 lw lp lv lq lx ly
  have hA0 : S3.at 0 = some ((List.replicate n none).set i (some ⟨p, xa, xn⟩)) := by rw [← hS3, at_setb _ _ _ (by rw [HL.out]; omega), if_pos rfl]
  have hA1 : S3.at 1 = some (List.replicate k none) := by rw [← hS3, at_setb _ _ _ (by rw [HL.out]; omega), if_neg (by omega)]; exact HA1.out
  have hL : S3.blocks.length = 2 := by rw [← hS3, setb_len]; exact HL.out
  clear HA0 HA1 HL
  have HA0 := Lib.hid hA0
  have HA1 := Lib.hid hA1
  have HL := Lib.hid hL
  have hst : Hid (storedE S3 true 2 i 1 = 14) := by
    have h := storedE_get hA1 i
    rw [List.getElem?_replicate, if_pos hi'] at h
    exact h
  clear hS3 hA0 hA1 hL
  obtain ⟨y0, y1, y2, y3⟩ := ly.cells
  obtain ⟨u0, u1, u2, u3⟩ := lv.cells
  go_wp2_with fail
  refine (set_is T7.rep true 2 i 14 false hst.out rfl).mono ?_
  rintro e w8 ⟨rfl, hb8⟩
  have T8 := T7.next hb8
  replace lw := lw.next hb8
  replace lp := lp.next hb8
  replace lv := lv.next hb8
  replace lq := lq.next hb8
  replace lx := lx.next hb8
  replace ly := ly.next hb8
  obtain ⟨y0, y1, y2, y3⟩ := ly.cells
  obtain ⟨u0, u1, u2, u3⟩ := lv.cells
  go_wp2_with fail
  refine (store_any T8.rep true 2 i q ya yn 1 i _ rfl rfl rfl HA1.out (by simpa using hi')).mono ?_
  rintro e w9 ⟨rfl, ht⟩
  obtain ⟨lm9, loc9, T9, F9, K9⟩ := T8.turned ht
  replace lw := lw.turned F9 K9
  replace lp := lp.turned F9 K9
  replace lq := lq.turned F9 K9
  replace lx := lx.turned F9 K9
  clear ht F9 K9 lv ly
  generalize hS4 : MS.setb S3 1 (some ((List.replicate k none).set i (some ⟨q, ya, yn⟩))) = S4 at T9 lw lp lq lx
  have hA0 : S4.at 0 = some ((List.replicate n none).set i (some ⟨p, xa, xn⟩)) := by rw [← hS4, at_setb _ _ _ (by rw [HL.out]; omega), if_neg (by omega)]; exact HA0.out
  have hA1 : S4.at 1 = some ((List.replicate k none).set i (some ⟨q, ya, yn⟩)) := by rw [← hS4, at_setb _ _ _ (by rw [HL.out]; omega), if_pos rfl]
  have hL : S4.blocks.length = 2 := by rw [← hS4, setb_len]; exact HL.out
  clear HA0 HA1 HL hst
  have HA0 := Lib.hid hA0
  have HA1 := Lib.hid hA1
  have HL := Lib.hid hL
  clear hS4 hA0 hA1 hL
  obtain ⟨x0, x1, x2, x3⟩ := lx.cells
  go_wp2_with fail
  refine (load_any T9.rep true 1 i ⟨p, xa, xn⟩ 0 (loadR_val HA0.out i _ (by rw [List.getElem?_set, if_pos rfl, if_pos (by simpa using hi)]) 1 rfl _ rfl)).mono ?_
  rintro e w10 ⟨rfl, hb10⟩
  have T10 := T9.next hb10
  replace lw := lw.next hb10
  replace lp := lp.next hb10
  replace lq := lq.next hb10
  replace lx := lx.next hb10
  have la := Loc.mk' T10 p xa xn
  obtain ⟨q0, q1, q2, q3⟩ := lq.cells
  go_wp2_with fail
  refine (free_is (T10.alloc _).rep true 2 0 1 _ rfl rfl rfl HA1.out).mono ?_
  rintro e w11 ⟨rfl, ht⟩
  obtain ⟨lm11, loc11, T11, F11, K11⟩ := (T10.alloc _).turned ht
  replace lw := (lw.alloc _).turned F11 K11
  replace lp := (lp.alloc _).turned F11 K11
  replace lq := (lq.alloc _).turned F11 K11
  replace lx := (lx.alloc _).turned F11 K11
  replace la := la.turned F11 K11
  generalize w10.heap.size = ba at la ⊢
  clear ht F11 K11
  generalize hS5 : MS.setb S4 1 none = S5 at T11 lw lp lq lx la
  have hA0 : S5.at 0 = some ((List.replicate n none).set i (some ⟨p, xa, xn⟩)) := by rw [← hS5, at_setb _ _ _ (by rw [HL.out]; omega), if_neg (by omega)]; exact HA0.out
  clear HA0 HA1 HL
  have HA0 := Lib.hid hA0
  clear hS5 hA0
  obtain ⟨x0, x1, x2, x3⟩ := lx.cells
  go_wp2_with fail
  refine (load_any T11.rep true 1 i ⟨p, xa, xn⟩ 0 (loadR_val HA0.out i _ (by rw [List.getElem?_set, if_pos rfl, if_pos (by simpa using hi)]) 1 rfl _ rfl)).mono ?_
  rintro e w12 ⟨rfl, hb12⟩
  have T12 := T11.next hb12
  replace la := la.next hb12
  replace lw := lw.next hb12
  replace lp := lp.next hb12
  replace lq := lq.next hb12
  obtain ⟨a0, a1, a2, a3⟩ := la.cells
  obtain ⟨u0, u1, u2, u3⟩ := lw.cells
  obtain ⟨p0, p1, p2, p3⟩ := lp.cells
  obtain ⟨q0, q1, q2, q3⟩ := lq.cells
  go_wp2
  go_ret
  exact ⟨rfl, (T12.alloc _).below⟩

set_option maxRecDepth 100000 in
set_option maxHeartbeats 2000000 in
theorem memApart_out (n k i : Int) (p : Bool) (xa xn : Int) (q : Bool) (ya yn : Int) (w : World) (h : n < 1 ∨ 100 < n ∨ k < 1 ∨ 100 < k ∨ i < 0 ∨ n ≤ i ∨ k ≤ i) :
    Calls Try.prog 9 #[.int .i64 n, .int .i64 k, .int .i64 i, .agg #[.bool p, .int .i64 xa, .int .i64 xn], .agg #[.bool q, .int .i64 ya, .int .i64 yn]] w fun e w' => e = .returned (.bool true) ∧ Below w.heap.size w w' := by
  by_cases c0 : n < 1
  · have t0 : decide (n < 1) = true := by simp; omega
    go_enter Try.func9, Try.ntmps9
    go_wp2_with fail
    refine (works_any _).mono ?_
    rintro e w1 ⟨rfl, hb1⟩
    go_wp2
    go_ret
    exact ⟨rfl, box2_below hb1⟩
  have t0 : decide (n < 1) = false := by simp; omega
  by_cases c1 : 100 < n
  · have t1 : decide (100 < n) = true := by simp; omega
    go_enter Try.func9, Try.ntmps9
    go_wp2_with fail
    refine (works_any _).mono ?_
    rintro e w1 ⟨rfl, hb1⟩
    go_wp2
    go_ret
    exact ⟨rfl, box2_below hb1⟩
  have t1 : decide (100 < n) = false := by simp; omega
  by_cases c2 : k < 1
  · have t2 : decide (k < 1) = true := by simp; omega
    go_enter Try.func9, Try.ntmps9
    go_wp2_with fail
    refine (works_any _).mono ?_
    rintro e w1 ⟨rfl, hb1⟩
    go_wp2
    go_ret
    exact ⟨rfl, box2_below hb1⟩
  have t2 : decide (k < 1) = false := by simp; omega
  by_cases c3 : 100 < k
  · have t3 : decide (100 < k) = true := by simp; omega
    go_enter Try.func9, Try.ntmps9
    go_wp2_with fail
    refine (works_any _).mono ?_
    rintro e w1 ⟨rfl, hb1⟩
    go_wp2
    go_ret
    exact ⟨rfl, box2_below hb1⟩
  have t3 : decide (100 < k) = false := by simp; omega
  by_cases c4 : i < 0
  · have t4 : decide (i < 0) = true := by simp; omega
    go_enter Try.func9, Try.ntmps9
    go_wp2_with fail
    refine (works_any _).mono ?_
    rintro e w1 ⟨rfl, hb1⟩
    go_wp2
    go_ret
    exact ⟨rfl, box2_below hb1⟩
  have t4 : decide (i < 0) = false := by simp; omega
  by_cases c5 : n ≤ i
  · have t5 : decide (n ≤ i) = true := by simp; omega
    go_enter Try.func9, Try.ntmps9
    go_wp2_with fail
    refine (works_any _).mono ?_
    rintro e w1 ⟨rfl, hb1⟩
    go_wp2
    go_ret
    exact ⟨rfl, box2_below hb1⟩
  have t5 : decide (n ≤ i) = false := by simp; omega
  by_cases c6 : k ≤ i
  · have t6 : decide (k ≤ i) = true := by simp; omega
    go_enter Try.func9, Try.ntmps9
    go_wp2_with fail
    refine (works_any _).mono ?_
    rintro e w1 ⟨rfl, hb1⟩
    go_wp2
    go_ret
    exact ⟨rfl, box2_below hb1⟩
  have t6 : decide (k ≤ i) = false := by simp; omega
  omega

theorem memApart_walk (n k i : Int) (p : Bool) (xa xn : Int) (q : Bool) (ya yn : Int) (w : World) :
    Calls Try.prog 9 #[.int .i64 n, .int .i64 k, .int .i64 i, .agg #[.bool p, .int .i64 xa, .int .i64 xn], .agg #[.bool q, .int .i64 ya, .int .i64 yn]] w fun e w' => e = .returned (.bool true) ∧ Below w.heap.size w w' := by
  by_cases h : n < 1 ∨ 100 < n ∨ k < 1 ∨ 100 < k ∨ i < 0 ∨ n ≤ i ∨ k ≤ i
  · exact memApart_out n k i p xa xn q ya yn w h
  · obtain ⟨N, rfl⟩ : ∃ N : Nat, n = N := ⟨n.toNat, by omega⟩
    obtain ⟨K, rfl⟩ : ∃ K : Nat, k = K := ⟨k.toNat, by omega⟩
    obtain ⟨I, rfl⟩ : ∃ I : Nat, i = I := ⟨i.toNat, by omega⟩
    exact memApart_main N K I p xa xn q ya yn w (by omega) (by omega) (by omega) (by omega)

theorem memApart_lifted (os : Os) (started : os.Started) (H : Type) (enc : TypeId × Value → H) :
    ReturnsInHanded {} Try.checked os 9 .any (Rows.memApartSpec.pre6 enc Try.prog Try.f9 Rows.memApartRow.domain false) (Rows.memApartSpec.post enc Try.prog Try.f9 false true false false) := by
  refine returnsInHanded_of_change (C := Try.checked) own started (by kernel_rfl) Try.func9
    (ChangeSpec.witness6 (enc := enc) (C := Try.checked) false ⟨#[], #[.int .i64 0, .int .i64 0, .int .i64 0, .agg #[.bool false, .int .i64 0, .int .i64 0], .agg #[.bool false, .int .i64 0, .int .i64 0]], []⟩ 8 (by kernel_rfl) (by kernel_rfl) (by kernel_rfl) (by kernel_rfl)) ?_
  intro W base args ds gs before hval0 hW _ _
  have hval : ∀ (j : Nat) t v, Try.f9.params[j]? = some t → args[j]? = some v → Value.okWide Try.prog W .any base t v := hval0
  have hW' := hW
  obtain ⟨p, q, hA0, hV, rfl, hfz, hnd⟩ := hW
  have hA : DataW.TrodAll enc Try.prog W 0 (fun _ => true) true Try.f9.params.toList args.toList ds p := hA0
  rw [Try.params9] at hA hval
  obtain ⟨v0, vs0, d0, ds0, p0, q0, hargs, rfl, rfl, h0, r0⟩ := trodAll_cons hA
  obtain ⟨v1, vs1, d1, ds1, p1, q1, rfl, rfl, rfl, h1, r1⟩ := trodAll_cons r0
  obtain ⟨v2, vs2, d2, ds2, p2, q2, rfl, rfl, rfl, h2, r2⟩ := trodAll_cons r1
  obtain ⟨v3, vs3, d3, ds3, p3, q3, rfl, rfl, rfl, h3, r3⟩ := trodAll_cons r2
  obtain ⟨v4, vs4, d4, ds4, p4, q4, rfl, rfl, rfl, h4, r4⟩ := trodAll_cons r3
  obtain ⟨rfl, rfl, rfl⟩ := trodAll_nil r4
  obtain rfl : args = #[v0, v1, v2, v3, v4] := by cases args; simp_all
  obtain ⟨rfl, rfl⟩ := trodVars_none hV
  obtain ⟨n, rfl, rfl, rfl, wn⟩ := open_int Try.underlying3 (hval 0 3 v0 rfl rfl) h0
  obtain ⟨k, rfl, rfl, rfl, wk⟩ := open_int Try.underlying3 (hval 1 3 v1 rfl rfl) h1
  obtain ⟨i, rfl, rfl, rfl, wi⟩ := open_int Try.underlying3 (hval 2 3 v2 rfl rfl) h2
  obtain ⟨b, xa, xn, rfl, wa, wxn, rfl⟩ := open_word (hval 3 30 v3 rfl rfl) h3
  obtain ⟨b', ya, yn, rfl, wya, wyn, rfl⟩ := open_word (hval 4 30 v4 rfl rfl) h4
  refine (memApart_walk n k i b xa xn b' ya yn W).mono fun e W' ⟨he, hb⟩ => ?_
  subst he
  exact ⟨_, rfl, law_post rfl rfl (by kernel_rfl) rfl hW' hb⟩

theorem memApart_holds : Rows.MemApartSaid :=
  OpenClaim.holds_of_wide 9 Try.f9 rfl rfl rfl rfl rfl rfl rfl ⟨rfl, rfl, rfl, rfl, rfl⟩ rfl rfl rfl rfl rfl (by kernel_rfl) Try.func9 (by kernel_rfl)
    (of_decide_eq_true (by kernel_rfl)) (by unfold Func.isWrapper; first | (rw [if_pos (by decide +kernel)]; kernel_rfl) | (rw [if_neg (by decide +kernel)]; exact ⟨rfl, rfl⟩))
    (fun os started H enc _ => memApart_lifted os started H enc)
end Go.Proofs.Ytbcockaleegicaa
