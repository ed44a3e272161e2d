/-
  MemKeeps: the walk of its main way. No conditions but those of the statement's own guard.
-/
import Derived.Test.YtbcockaleegicaaKeep
import Derived.Deep.DeepCutAuto
import Derived.Deep.CutBlock
namespace Go.Proofs.Ytbcockaleegicaa
open Go.RowKit Go.ChangeShapes Go.WideShapes Go.ChangeAt

/-- the loop's state -/
def Kept2 (B : Nat) (w0 : World) (mb bw bp bq i : Nat) (x : Wd) (wr : World) (j : Nat) : Prop :=
  ∃ lm loc S, St B w0 wr mb lm loc S ∧ Loc wr mb lm loc S bw x.p x.a x.n ∧ Loc wr mb lm loc S bp true 2 0 ∧ Loc wr mb lm loc S bq true 2 i ∧ Holds S i x ∧ S.blocks.length ≤ j + 2

/-- the round's guard, as the law has it -/
def guardB (k n pa pn : Int) (i : Nat) : Bool := decide (pa = 2) && (decide (k.tmod 6 = 1) || (decide (3 ≤ k.tmod 6) && (decide (pn ≤ i) && decide (wrap64 (i - pn) < max n 1))))

theorem guard_off {k n pa pn : Int} {i : Nat} (hg : guardB k n pa pn i = false) (hk : 3 ≤ k.tmod 6) (c : Int) (hc : c ≤ max n 1) (h100 : c ≤ 100) : Off1 pa pn c i := by
  by_cases h1 : pa = 2
  · right
    rintro ⟨h2, h3⟩
    have h4 : wrap64 ((i : Int) - pn) < max n 1 := by rw [IntWalk.wrap64_in _ ⟨by omega, by omega⟩]; omega
    simp [guardB, h1, hk, h2, h4] at hg
  · exact .inl h1
theorem guard_free {k n pa pn : Int} {i : Nat} (hg : guardB k n pa pn i = false) (hk : k.tmod 6 = 1) : pa ≠ 2 := by
  intro h
  simp [guardB, h, hk] at hg

theorem Kept2.turned {B : Nat} {w0 w w' : World} {mb bw bp bq i j : Nat} {x : Wd} {lm : Option Nat} {loc : Nat → Nat} {S S' : MS} (T : St B w0 w mb lm loc S) (lw : Loc w mb lm loc S bw x.p x.a x.n) (lp : Loc w mb lm loc S bp true 2 0) (lq : Loc w mb lm loc S bq true 2 i)
    (ht : Turned w w' mb lm loc S S') (hH : Holds S' i x) (hl : S'.blocks.length ≤ j + 2) : Kept2 B w0 mb bw bp bq i x w' j := by
  obtain ⟨lm', loc', T', F', K'⟩ := T.turned ht
  exact ⟨lm', loc', S', T', lw.turned F' K', lp.turned F' K', lq.turned F' K', hH, hl⟩

set_option maxRecDepth 100000 in
set_option maxHeartbeats 3000000 in
theorem memKeeps_main (n i : Nat) (x : Wd) (oa : Option Addr) (ab off cap : Nat) (as_ : List Ac) (w : World) (hlen : as_.length ≤ maxLen) (hn : n ≤ 50) (hi : i < n) (hoa : 0 < as_.length → oa = some ⟨ab, off, none⟩ ∧ ab < w.heap.size) (hA : ActsAt w ab off as_) :
    Calls Try.prog 5 #[.int .i64 n, .int .i64 i, .agg #[.bool x.p, .int .i64 x.a, .int .i64 x.n], .slice oa as_.length cap] w fun e w' => e = .returned (.bool true) ∧ Below w.heap.size w w' := by
  have t1 : decide ((n : Int) < 1) = false := by simp; omega
  have t2 : decide ((50 : Int) < n) = false := by simp; omega
  have t3 : decide ((i : Int) < 0) = false := by simp
  have t4 : decide ((n : Int) ≤ i) = false := by simp; omega
  replace hoa := Lib.hid hoa
  replace hA := Lib.hid hA
  go_enter Try.func5, Try.ntmps5
  go_wp2_with fail
  refine (works_any _).mono ?_
  rintro e w1 ⟨rfl, hb1⟩
  have vw := (Var.mk w x.p x.a x.n).below hb1
  have hB := box_below hb1
  clear hb1
  go_wp2_with fail
  refine (small_any oa ab off cap as_ w1 hlen (fun h => ⟨(hoa.out h).1, by have := (hoa.out h).2; have := hB.size; omega⟩) fun j y hy => ?_).mono ?_
  · have hab := (hoa.out (by have := (List.getElem?_eq_some_iff.1 hy).1; omega)).2
    obtain ⟨⟨h0, h1, h2, h3, h4, h5, h6, h7⟩, hw⟩ := hA.out j y hy
    exact ⟨⟨(hB.cell hab).trans h0, (hB.cell hab).trans h1, (hB.cell hab).trans h2, (hB.cell hab).trans h3, (hB.cell hab).trans h4, (hB.cell hab).trans h5, (hB.cell hab).trans h6, (hB.cell hab).trans h7⟩, hw⟩
  rintro e w2 ⟨⟨v, rfl, hsm⟩, rfl⟩
  cases v with
  | false =>
    clear hsm
    go_wp2
    go_ret
    exact ⟨rfl, hB⟩
  | true =>
    have HSM := Lib.hid (hsm rfl)
    clear hsm
    go_wp2_with fail
    refine (new_any 1000 1000 _ rfl).mono ?_
    rintro e w2 ⟨rfl, R2, hb2, hz2⟩
    obtain ⟨T2, F2⟩ := St.new hB hB.size R2 hb2
    have lw : Loc w2 _ _ _ _ _ _ _ _ := ⟨vw.below hb2, F2 _ vw.lt⟩
    generalize hmb : w1.heap.size = mb at R2 T2 F2 lw ⊢
    clear hmb vw F2
    go_wp2_with fail
    refine (alloc_any R2 3 1 (by omega) (by show (3 : Int) ≤ 1000 - 0; omega) (by show 0 + 1 < 1000; decide) rfl).mono ?_
    rintro e w3 ⟨rfl, ht⟩
    obtain ⟨lm3, loc3, T3, F3, K3⟩ := T2.turned ht
    replace lw := lw.turned F3 K3
    clear ht F3 K3
    go_wp2_with fail
    refine (alloc_any T3.rep n 2 (by omega) (by rw [words_push]; show (n : Int) ≤ 1000 - ((0 + 3 : Nat) : Int); omega) (by rw [push_len]; decide) (by rw [push_len]; rfl)).mono ?_
    rintro e w4 ⟨rfl, ht⟩
    obtain ⟨lm4, loc4, T4, F4, K4⟩ := T3.turned ht
    rw [Int.toNat_natCast] at T4 F4
    replace lw := lw.turned F4 K4
    have lp := Loc.mk' T4 true 2 0
    clear ht F4 K4
    generalize hS : MS.push (MS.push ⟨1000, []⟩ (Int.toNat 3)) n = S at T4 lw lp
    have hA1 : S.at 1 = some (List.replicate n none) := by rw [← hS, at_push, if_pos (by rw [push_len]; rfl)]
    have hL : S.blocks.length = 2 := by rw [← hS, push_len, push_len]; rfl
    have HA1 := Lib.hid hA1
    have HL := Lib.hid hL
    clear hS hA1 hL
    obtain ⟨p0, p1, p2, p3⟩ := lp.cells
    go_wp2_with fail
    refine (off_any true 2 0 i _ (by omega) rfl).mono ?_
    rintro e w5 ⟨rfl, hb5⟩
    have T5 := (T4.alloc _).next hb5
    replace lw := (lw.alloc _).next hb5
    replace lp := lp.next hb5
    generalize w4.heap.size = bp at lp ⊢
    have lq := Loc.mk' T5 true 2 i
    obtain ⟨u0, u1, u2, u3⟩ := lw.cells
    go_wp2_with fail
    refine (store_any (T5.alloc _).rep true 2 i x.p x.a x.n 1 i _ rfl rfl rfl HA1.out (by simpa using hi)).mono ?_
    rintro e w6 ⟨rfl, ht⟩
    obtain ⟨lm6, loc6, T6, F6, K6⟩ := (T5.alloc _).turned ht
    replace lw := (lw.alloc _).turned F6 K6
    replace lp := (lp.alloc _).turned F6 K6
    replace lq := lq.turned F6 K6
    generalize w5.heap.size = bq at lq ⊢
    have hK : Kept2 w.heap.size w mb w.heap.size bp bq i x w6 0 := by
      refine ⟨lm6, loc6, _, T6, lw, lp, lq, ⟨(List.replicate n none).set i (some x), ?_, ?_⟩, ?_⟩
      · rw [at_setb _ _ _ (by rw [HL.out]; omega), if_pos rfl]
      · rw [List.getElem?_set, if_pos rfl, if_pos (by simpa using hi)]
      · rw [setb_len, HL.out]; omega
    clear ht F6 K6 T6 T5 T4 T3 T2 R2 lw lp lq
    go_wp2_with fail
    go_loopw [16] (fun u wr => ∃ j : Nat, j ≤ as_.length ∧ u = .int .i64 j ∧ Kept2 w.heap.size w mb w.heap.size bp bq i x wr j) (fun u _ => as_.length - (intOf u).toNat)
    case atStart => exact ⟨0, by omega, rfl, hK⟩
    case round =>
      obtain ⟨j, hj, rfl, lm, loc, S, T, lw, lp, lq, hH, hSL⟩ := hrel
      by_cases hjl : j < as_.length
      · have t6 : decide ((j : Int) < as_.length) = true := by simpa using hjl
        obtain ⟨rfl, hab⟩ := hoa.out (by omega)
        obtain ⟨y, hy⟩ : ∃ y, as_[j]? = some y := ⟨_, List.getElem?_eq_getElem hjl⟩
        have habr : ab < wr.heap.size := by have := T.le; omega
        obtain ⟨⟨g0, g1, g2, g3, g4, g5, g6, g7⟩, hyw⟩ := hA.out j y hy
        replace g0 := (T.below.cell (p := ⟨ab, off + j * 8, none⟩) hab).trans g0
        replace g1 := (T.below.cell (p := ⟨ab, off + j * 8 + 1, none⟩) hab).trans g1
        replace g2 := (T.below.cell (p := ⟨ab, off + j * 8 + 2, none⟩) hab).trans g2
        replace g3 := (T.below.cell (p := ⟨ab, off + j * 8 + 3, none⟩) hab).trans g3
        replace g4 := (T.below.cell (p := ⟨ab, off + j * 8 + 4, none⟩) hab).trans g4
        replace g5 := (T.below.cell (p := ⟨ab, off + j * 8 + 5, none⟩) hab).trans g5
        replace g6 := (T.below.cell (p := ⟨ab, off + j * 8 + 6, none⟩) hab).trans g6
        replace g7 := (T.below.cell (p := ⟨ab, off + j * 8 + 7, none⟩) hab).trans g7
        have hy100 := HSM.out.2 j y hy
        have hl40 := HSM.out.1
        have HYW := Lib.hid hyw
        clear hy hyw
        obtain ⟨p0, p1, p2, p3⟩ := lp.cells
        go_upto_region 17 with fail
        have hx := fun j v h => alloc_cell wr #[.int .i64 y.k, .int .i64 y.n, .bool y.p.p, .int .i64 y.p.a, .int .i64 y.p.n, .bool y.q.p, .int .i64 y.q.a, .int .i64 y.q.n] 32 j v h
        have a0 := hx 0 _ rfl
        have a1 := hx 1 _ rfl
        have a2 := hx 2 _ rfl
        have a3 := hx 3 _ rfl
        have a4 := hx 4 _ rfl
        have a5 := hx 5 _ rfl
        have a6 := hx 6 _ rfl
        have a7 := hx 7 _ rfl
        clear hx p0 p1 p2 p3 g0 g1 g2 g3 g4 g5 g6 g7
        replace T := T.alloc (.cells #[.int .i64 y.k, .int .i64 y.n, .bool y.p.p, .int .i64 y.p.a, .int .i64 y.p.n, .bool y.q.p, .int .i64 y.q.a, .int .i64 y.q.n] 32)
        replace lw := lw.alloc (.cells #[.int .i64 y.k, .int .i64 y.n, .bool y.p.p, .int .i64 y.p.a, .int .i64 y.p.n, .bool y.q.p, .int .i64 y.q.a, .int .i64 y.q.n] 32)
        replace lp := lp.alloc (.cells #[.int .i64 y.k, .int .i64 y.n, .bool y.p.p, .int .i64 y.p.a, .int .i64 y.p.n, .bool y.q.p, .int .i64 y.q.a, .int .i64 y.q.n] 32)
        replace lq := lq.alloc (.cells #[.int .i64 y.k, .int .i64 y.n, .bool y.p.p, .int .i64 y.p.a, .int .i64 y.p.n, .bool y.q.p, .int .i64 y.q.a, .int .i64 y.q.n] 32)
        generalize wr.alloc (.cells #[.int .i64 y.k, .int .i64 y.n, .bool y.p.p, .int .i64 y.p.a, .int .i64 y.p.n, .bool y.q.p, .int .i64 y.q.a, .int .i64 y.q.n] 32) = W at T lw lp lq a0 a1 a2 a3 a4 a5 a6 a7 ⊢
        have a8 := World.block_lt_of_cell? W _ a0
        generalize wr.heap.size = ba at a0 a1 a2 a3 a4 a5 a6 a7 a8 ⊢
        obtain ⟨p0, p1, p2, p3⟩ := lp.cells
        go_cut [118] (fun s wx => s = .bool (guardB y.k y.n y.p.a y.p.n i) ∧ wx = W)
        case first =>
          by_cases c1 : y.p.a = 2
          · have s1 : (y.p.a == 2) = true := by simpa using c1
            by_cases c2 : y.k.tmod 6 = 1
            · have s2 : (y.k.tmod 6 == 1) = true := by simpa using c2
              have C1 := Lib.hid c1
              have C2 := Lib.hid c2
              clear c1 c2
              go_wp2_with fail
              go_meet
              exact ⟨by simp [guardB, C1.out, C2.out], rfl⟩
            · have s2 : (y.k.tmod 6 == 1) = false := by simpa using c2
              have C1 := Lib.hid c1
              have C2 := Lib.hid c2
              clear c1 c2
              by_cases c3 : 3 ≤ y.k.tmod 6
              · have s3 : decide (3 ≤ y.k.tmod 6) = true := by simpa using c3
                by_cases c4 : y.p.n ≤ i
                · have s4 : decide (y.p.n ≤ (i : Int)) = true := by simpa using c4
                  by_cases c6 : y.n < 1
                  · have e6 : max y.n 1 = 1 := by omega
                    have E6 := Lib.hid e6
                    clear e6
                    by_cases c5 : wrap64 ((i : Int) - y.p.n) < 1
                    · have s5 : decide (wrap64 ((i : Int) - y.p.n) < 1) = true := by simpa using c5
                      go_wp2_with fail
                      go_meet
                      exact ⟨by simp [guardB, C1.out, C2.out, c3, c4, E6.out, c5], rfl⟩
                    · have s5 : decide (wrap64 ((i : Int) - y.p.n) < 1) = false := by simpa using c5
                      go_wp2_with fail
                      go_meet
                      exact ⟨by simp [guardB, C1.out, C2.out, c3, c4, E6.out, c5], rfl⟩
                  · have e6 : max y.n 1 = y.n := by omega
                    have E6 := Lib.hid e6
                    have c6' : 1 ≤ y.n := by omega
                    clear e6 c6
                    by_cases c5 : wrap64 ((i : Int) - y.p.n) < y.n
                    · have s5 : decide (wrap64 ((i : Int) - y.p.n) < y.n) = true := by simpa using c5
                      go_wp2_with fail
                      go_meet
                      exact ⟨by simp [guardB, C1.out, C2.out, c3, c4, E6.out, c5], rfl⟩
                    · have s5 : decide (wrap64 ((i : Int) - y.p.n) < y.n) = false := by simpa using c5
                      go_wp2_with fail
                      go_meet
                      exact ⟨by simp [guardB, C1.out, C2.out, c3, c4, E6.out, c5], rfl⟩
                · have s4 : decide (y.p.n ≤ (i : Int)) = false := by simpa using c4
                  go_wp2_with fail
                  go_meet
                  exact ⟨by simp [guardB, C1.out, C2.out, c3]; intro h; omega, rfl⟩
              · have s3 : decide (3 ≤ y.k.tmod 6) = false := by simpa using c3
                go_wp2_with fail
                go_meet
                exact ⟨by simp [guardB, C1.out, C2.out]; intro h; omega, rfl⟩
          · have s1 : (y.p.a == 2) = false := by simpa using c1
            have C1 := Lib.hid c1
            clear c1
            go_wp2_with fail
            go_meet
            exact ⟨by simp [guardB, C1.out], rfl⟩
        case rest =>
          obtain ⟨rfl, rfl⟩ := hcut
          obtain ⟨g, hg⟩ : ∃ g, guardB y.k y.n y.p.a y.p.n i = g := ⟨_, rfl⟩
          rw [hg]
          have HG := Lib.hid hg
          clear hg
          cases g with
          | true =>
            go_wp2_with fail
            go_ret
            exact ⟨rfl, T.below⟩
          | false =>
            go_upto_block 2 with fail
            go_cut [] (fun wx => Kept2 w.heap.size w mb w.heap.size bp bq i x wx (j + 1))
            case first =>
              by_cases m0 : y.k.tmod 6 = 0
              · have s0 : (y.k.tmod 6 == 0) = true := by simpa using m0
                have M0 := Lib.hid m0
                clear m0
                obtain ⟨⟨⟨z, er⟩, S'⟩, hr⟩ : ∃ r, allocR S y.n = r := ⟨_, rfl⟩
                have HRR := Lib.hid hr
                have ⟨hH', hl'⟩ := holds_alloc hH hr
                clear hr
                go_wp2_with fail
                refine (alloc_gen T.rep (by omega) y.n z er S' HRR.out).mono ?_
                rintro e w7 ⟨rfl, ht⟩
                go_wp2_with fail
                go_meet
                exact Kept2.turned T lw lp lq ht hH' (by omega)
              have s0 : (y.k.tmod 6 == 0) = false := by simpa using m0
              by_cases m1 : y.k.tmod 6 = 1
              · have s1 : (y.k.tmod 6 == 1) = true := by simpa using m1
                have M1 := Lib.hid m1
                clear m1
                obtain ⟨⟨er, S'⟩, hr⟩ : ∃ r, freeR S y.p.p y.p.a y.p.n = r := ⟨_, rfl⟩
                have HRR := Lib.hid hr
                have ⟨hH', hl'⟩ := holds_free hH (guard_free HG.out M1.out) hr
                clear hr
                go_wp2_with fail
                refine (free_gen T.rep y.p.p y.p.a y.p.n er S' HRR.out).mono ?_
                rintro e w7 ⟨rfl, ht⟩
                go_wp2_with fail
                go_meet
                exact Kept2.turned T lw lp lq ht hH' (by omega)
              have s1 : (y.k.tmod 6 == 1) = false := by simpa using m1
              by_cases m3 : y.k.tmod 6 = 3
              · have s3 : (y.k.tmod 6 == 3) = true := by simpa using m3
                have M3 := Lib.hid m3
                clear m3
                obtain ⟨⟨er, S'⟩, hr⟩ : ∃ r, storeR S y.p.p y.p.a y.p.n y.q = r := ⟨_, rfl⟩
                have HRR := Lib.hid hr
                have ⟨hH', hl'⟩ := holds_store hH (guard_off HG.out (by rw [M3.out]; decide) 1 (by omega) (by decide)) hr
                clear hr
                go_wp2_with fail
                refine (store_gen T.rep y.p.p y.p.a y.p.n y.q er S' HRR.out HYW.out.2.2.1.2).mono ?_
                rintro e w7 ⟨rfl, ht⟩
                go_wp2_with fail
                go_meet
                exact Kept2.turned T lw lp lq ht hH' (by omega)
              have s3 : (y.k.tmod 6 == 3) = false := by simpa using m3
              by_cases m4 : y.k.tmod 6 = 4
              · have s4 : (y.k.tmod 6 == 4) = true := by simpa using m4
                have M4 := Lib.hid m4
                clear m4
                obtain ⟨⟨er, S'⟩, hr⟩ : ∃ r, copyR S y.p.p y.p.a y.p.n y.q.p y.q.a y.q.n y.n = r := ⟨_, rfl⟩
                have HRR := Lib.hid hr
                have ⟨hH', hl'⟩ := holds_copy hH (guard_off HG.out (by rw [M4.out]; decide) y.n (by omega) hy100) hr
                clear hr
                go_wp2_with fail
                refine (copy_gen T.rep y.p.p y.p.a y.p.n y.q.p y.q.a y.q.n y.n er S' HRR.out HYW.out.2.2.1.2 (by omega)).mono ?_
                rintro e w7 ⟨rfl, ht⟩
                go_wp2_with fail
                go_meet
                exact Kept2.turned T lw lp lq ht hH' (by omega)
              have s4 : (y.k.tmod 6 == 4) = false := by simpa using m4
              by_cases m5 : y.k.tmod 6 = 5
              · have s5 : (y.k.tmod 6 == 5) = true := by simpa using m5
                have M5 := Lib.hid m5
                clear m5
                obtain ⟨⟨er, S'⟩, hr⟩ : ∃ r, clearR S y.p.p y.p.a y.p.n y.n = r := ⟨_, rfl⟩
                have HRR := Lib.hid hr
                have ⟨hH', hl'⟩ := holds_clear hH (guard_off HG.out (by rw [M5.out]; decide) y.n (by omega) hy100) hr
                clear hr
                go_wp2_with fail
                refine (clear_gen T.rep y.p.p y.p.a y.p.n y.n er S' HRR.out HYW.out.2.2.1.2).mono ?_
                rintro e w7 ⟨rfl, ht⟩
                go_wp2_with fail
                go_meet
                exact Kept2.turned T lw lp lq ht hH' (by omega)
              have s5 : (y.k.tmod 6 == 5) = false := by simpa using m5
              clear m0 m1 m3 m4 m5
              go_wp2_with fail
              go_meet
              exact ⟨lm, loc, S, T, lw, lp, lq, hH, by omega⟩
            case rest =>
              obtain ⟨lm7, loc7, S7, T7, lw7, lp7, lq7, hH7, hl7⟩ := hcut
              clear T lw lp lq hH
              obtain ⟨l, hl, hx⟩ := hH7
              have hH8 : Holds S7 i x := ⟨l, hl, hx⟩
              have hst : storedE S7 true 2 i 1 = 0 := by
                have h := storedE_get hl i
                rw [hx] at h
                exact h
              have HST := Lib.hid hst
              have HLD := Lib.hid (loadR_val hl i x hx 2 rfl i rfl)
              clear hl hx hst
              obtain ⟨q0, q1, q2, q3⟩ := lq7.cells
              go_wp2_with fail
              refine (load_any T7.rep true 2 i x 0 HLD.out).mono ?_
              rintro e w8 ⟨rfl, hb8⟩
              have T8 := T7.next hb8
              replace lw7 := lw7.next hb8
              replace lp7 := lp7.next hb8
              replace lq7 := lq7.next hb8
              obtain ⟨q0, q1, q2, q3⟩ := lq7.cells
              obtain ⟨u0, u1, u2, u3⟩ := lw7.cells
              go_wp2_with fail
              refine (set_is (T8.alloc _).rep true 2 i 0 true HST.out rfl).mono ?_
              rintro e w9 ⟨rfl, hb9⟩
              have hK9 : Kept2 w.heap.size w mb w.heap.size bp bq i x w9 (j + 1) := ⟨lm7, loc7, S7, (T8.alloc _).next hb9, (lw7.alloc _).next hb9, (lp7.alloc _).next hb9, (lq7.alloc _).next hb9, hH8, hl7⟩
              clear T7 T8 lw7 lp7 lq7 hH8 hb8 hb9
              go_wp2
              go_roundw
              case rel => first | exact ⟨j + 1, by omega, by go_num, hK9⟩ | ((repeat apply Exists.intro); exact ⟨⟨j + 1, by omega, by go_num, hK9⟩, rfl⟩)
              case measure => simp [intOf]; omega
      · have t6 : decide ((j : Int) < as_.length) = false := by simpa using hjl
        go_wp2
        go_ret
        exact ⟨rfl, T.below⟩
end Go.Proofs.Ytbcockaleegicaa
