/-
  ParseGlue's walk, a part. Conditions: the package variables lie as the program's text lays them.
-/
import Derived.Test.YtggdpgaedmegbaaGreatDoorJPGl1
namespace Go.Proofs.YtggdpgaedmegbaaGreatDoor
open Go.RowKit

set_option maxRecDepth 100000 in
set_option maxHeartbeats 40000000 in
theorem glue_main (a b : ByteArray) (w : World) (hV : Vars w) (ha : a.size ≤ 3000) (hb : b.size ≤ 3000) {x y : So5} {r r2 : List Tok} (hpa : parseR a = .ok x r) (hpb : parseR b = .ok y r2) : Calls Tryz.prog 4 #[.string a, .string b] w fun e w' => e = .returned (.bool true) ∧ Below w.heap.size w w' := by
  have t1 : decide ((a.size : Int) > 3000) = false := by simp; omega
  have t2 : decide ((b.size : Int) > 3000) = false := by simp; omega
  have has : (a ++ ⟨#[10]⟩ : ByteArray).size = a.size + 1 := by simp; rfl
  have z1 : ¬ 9223372036854775807 < a.size + 1 := by omega
  have z2 : ¬ 9223372036854775807 < (a ++ ⟨#[10]⟩ : ByteArray).size + b.size := by omega
  have z3 : ¬ 9223372036854775807 < a.size + 1 + b.size := by omega
  have HV := Lib.hid hV
  obtain ⟨c, hcc⟩ : ∃ c, (a ++ ⟨#[10]⟩ ++ b : ByteArray) = c := ⟨_, rfl⟩
  have HCC := Lib.hid hcc
  obtain ⟨tb, hl⟩ := parse_good hpb
  have hg := glue_plain ha hb (show bs c = _ by rw [← hcc]; exact bs_glue a b) hpa hl
  rw [hpb] at hg
  cases hpc : parseR c with
  | no g p => rw [hpc] at hg; exact hg.elim
  | ok z r3 =>
    rw [hpc] at hg
    have hcx := parse_count (by omega) hpa
    have hcy := parse_count (by omega) hpb
    have HCX := Lib.hid hcx
    have HCY := Lib.hid hcy
    have HG := Lib.hid (show npSo (joinS x y) = npSo z from hg)
    have HPA := Lib.hid hpa
    have HPB := Lib.hid hpb
    have HPC := Lib.hid hpc
    have HL := Lib.hid hl
    clear hV ha hb hpa hpb hpc hl has hcc hg hcx hcy
    obtain ⟨iS, hiS1, hiS2, hiS3, hiS4⟩ := info_parts infoI_S
    have HIS := Lib.hid (And.intro hiS1 (And.intro hiS2 (And.intro hiS3 hiS4)))
    clear hiS1 hiS2 hiS3 hiS4
    obtain ⟨iE, hiE1, hiE2, hiE3, hiE4⟩ := info_parts infoI_E
    have HIE := Lib.hid (And.intro hiE1 (And.intro hiE2 (And.intro hiE3 hiE4)))
    clear hiE1 hiE2 hiE3 hiE4
    obtain ⟨iF, hiF1, hiF2, hiF3, hiF4⟩ := info_parts infoI_F
    have HIF := Lib.hid (And.intro hiF1 (And.intro hiF2 (And.intro hiF3 hiF4)))
    clear hiF1 hiF2 hiF3 hiF4
    go_enter Tryz.func4, Tryz.ntmps4
    go_upto_region 7 with
      (first
        | (go_at_call 14; refine (works_any w HV.out).mono ?_; rintro e W1 ⟨rfl, hb1⟩; have HB1 := Lib.hid hb1; clear hb1)
        | (go_at_call 15; refine (parse_any a W1 (HV.out.b HB1.out)).mono ?_; rintro e0 W2 ⟨hb1, h1⟩; unfold ReadOut at h1; rw [HPA.out] at h1; simp only at h1; obtain ⟨⟨y1, x1, y2, x2, y3, x3⟩, rfl, hxe, hxh⟩ := h1; simp only [soV]; have HB2 := Lib.hid (HB1.out.trans (hb1.mono HB1.out.size)); have HXE2 := Lib.hid hxe; have HXH2 := Lib.hid (SoH.und 181 _ _ _ (eb_full _ _ _) hxh); have HC2_2 := Lib.hid (Below.refl W2.heap.size W2); clear hb1 hxe hxh)
        | (refine wpList_store_box rfl 27 (.tmp 6) (.tmp 34) rfl W2.heap.size 0 rfl (.agg #[.slice y1.oa x1.length y1.cap, .slice y2.oa x2.length y2.cap, .slice y3.oa x3.length y3.cap]) rfl [.slice y1.oa x1.length y1.cap, .slice y2.oa x2.length y2.cap, .slice y3.oa x3.length y3.cap] rfl [.slice none 0 0, .slice none 0 0, .slice none 0 0] 27 (heap_alloc_new W2 (.cells #[.slice none 0 0, .slice none 0 0, .slice none 0 0] 27)) (Nat.le_refl _) (show (Tryz.prog.info? 27).map (·.size) = some 3 by kernel_rfl) ?c2 W2.heap.size (Nat.le_refl _) (W2.alloc (.cells #[.slice none 0 0, .slice none 0 0, .slice none 0 0] 27)) (Below.refl _ _) ?_; rotate_left; intro W3 hb hbx hoth))
    case c2 => first | exact ⟨rfl, rfl, rfl⟩ | (intro v hv; simp at hv; first | (rcases hv with rfl | rfl | rfl <;> rfl) | (subst hv; rfl))
    obtain ⟨N6, hN⟩ : ∃ N, N = W2.heap.size := ⟨_, rfl⟩
    have hb1 : Below W2.heap.size W2 W3 := (alloc_below W2 (.cells #[.slice none 0 0, .slice none 0 0, .slice none 0 0] 27)).trans hb
    have HB3 := Lib.hid (HB2.out.trans (hb1.mono HB2.out.size))
    have HC2_3 := Lib.hid (HC2_2.out.trans (hb1.mono HC2_2.out.size))
    have HX6 := Lib.hid (show W3.heap[N6]? = some (.cells #[.slice y1.oa x1.length y1.cap, .slice y2.oa x2.length y2.cap, .slice y3.oa x3.length y3.cap] 27) by rw [hN]; exact hbx)
    have HC3_3 := Lib.hid (Below.refl W3.heap.size W3)
    simp only [← hN]
    clear hb hbx hoth hb1 hN
    go_upto_region 8 with
      (first
        | (go_at_call 15; refine (parse_any b W3 (HV.out.b HB3.out)).mono ?_; rintro e0 W4 ⟨hb1, h1⟩; unfold ReadOut at h1; rw [HPB.out] at h1; simp only at h1; obtain ⟨⟨u1, v1, u2, v2, u3, v3⟩, rfl, hxe, hxh⟩ := h1; simp only [soV]; have HB4 := Lib.hid (HB3.out.trans (hb1.mono HB3.out.size)); have HC2_4 := Lib.hid (HC2_3.out.trans (hb1.mono HC2_3.out.size)); have HC3_4 := Lib.hid (HC3_3.out.trans (hb1.mono HC3_3.out.size)); have HXE4 := Lib.hid hxe; have HXH4 := Lib.hid (SoH.und 181 _ _ _ (eb_full _ _ _) hxh); have HC4_4 := Lib.hid (Below.refl W4.heap.size W4); clear hb1 hxe hxh)
        | (refine wpList_store_box rfl 27 (.tmp 9) (.tmp 40) rfl W4.heap.size 0 rfl (.agg #[.slice u1.oa v1.length u1.cap, .slice u2.oa v2.length u2.cap, .slice u3.oa v3.length u3.cap]) rfl [.slice u1.oa v1.length u1.cap, .slice u2.oa v2.length u2.cap, .slice u3.oa v3.length u3.cap] rfl [.slice none 0 0, .slice none 0 0, .slice none 0 0] 27 (heap_alloc_new W4 (.cells #[.slice none 0 0, .slice none 0 0, .slice none 0 0] 27)) (Nat.le_refl _) (show (Tryz.prog.info? 27).map (·.size) = some 3 by kernel_rfl) ?c4 W4.heap.size (Nat.le_refl _) (W4.alloc (.cells #[.slice none 0 0, .slice none 0 0, .slice none 0 0] 27)) (Below.refl _ _) ?_; rotate_left; intro W5 hb hbx hoth))
    case c4 => first | exact ⟨rfl, rfl, rfl⟩ | (intro v hv; simp at hv; first | (rcases hv with rfl | rfl | rfl <;> rfl) | (subst hv; rfl))
    obtain ⟨N9, hN⟩ : ∃ N, N = W4.heap.size := ⟨_, rfl⟩
    have hb1 : Below W4.heap.size W4 W5 := (alloc_below W4 (.cells #[.slice none 0 0, .slice none 0 0, .slice none 0 0] 27)).trans hb
    have HB5 := Lib.hid (HB4.out.trans (hb1.mono HB4.out.size))
    have HC2_5 := Lib.hid (HC2_4.out.trans (hb1.mono HC2_4.out.size))
    have HC3_5 := Lib.hid (HC3_4.out.trans (hb1.mono HC3_4.out.size))
    have HC4_5 := Lib.hid (HC4_4.out.trans (hb1.mono HC4_4.out.size))
    have HX9 := Lib.hid (show W5.heap[N9]? = some (.cells #[.slice u1.oa v1.length u1.cap, .slice u2.oa v2.length u2.cap, .slice u3.oa v3.length u3.cap] 27) by rw [hN]; exact hbx)
    have HC5_5 := Lib.hid (Below.refl W5.heap.size W5)
    simp only [← hN]
    clear hb hbx hoth hb1 hN
    go_upto_region 9 with (go_at_call 18; refine (lex_any b W5 (HV.out.b HB5.out)).mono ?_; rintro e0 W6 ⟨h1, hb1⟩; unfold LexOut at h1; rw [HL.out] at h1; simp only at h1; obtain ⟨gg, cap, rfl, -, -⟩ := h1; have HB6 := Lib.hid (HB5.out.trans (hb1.mono HB5.out.size)); have HC2_6 := Lib.hid (HC2_5.out.trans (hb1.mono HC2_5.out.size)); have HC3_6 := Lib.hid (HC3_5.out.trans (hb1.mono HC3_5.out.size)); have HC4_6 := Lib.hid (HC4_5.out.trans (hb1.mono HC4_5.out.size)); have HC5_6 := Lib.hid (HC5_5.out.trans (hb1.mono HC5_5.out.size)); clear hb1)
    go_upto_region 10 with
      (first
        | (go_at_call 15; rw [HCC.out]; refine (parse_any c W6 (HV.out.b HB6.out)).mono ?_; rintro e0 W7 ⟨hb1, h1⟩; unfold ReadOut at h1; rw [HPC.out] at h1; simp only at h1; obtain ⟨⟨i1, j1, i2, j2, i3, j3⟩, rfl, hxe, hxh⟩ := h1; simp only [soV]; have HB7 := Lib.hid (HB6.out.trans (hb1.mono HB6.out.size)); have HC2_7 := Lib.hid (HC2_6.out.trans (hb1.mono HC2_6.out.size)); have HC3_7 := Lib.hid (HC3_6.out.trans (hb1.mono HC3_6.out.size)); have HC4_7 := Lib.hid (HC4_6.out.trans (hb1.mono HC4_6.out.size)); have HC5_7 := Lib.hid (HC5_6.out.trans (hb1.mono HC5_6.out.size)); have HXE7 := Lib.hid hxe; have HXH7 := Lib.hid (SoH.und 181 _ _ _ (eb_full _ _ _) hxh); have HC7_7 := Lib.hid (Below.refl W7.heap.size W7); clear hb1 hxe hxh)
        | (refine wpList_store_box rfl 27 (.tmp 15) (.tmp 55) rfl W7.heap.size 0 rfl (.agg #[.slice i1.oa j1.length i1.cap, .slice i2.oa j2.length i2.cap, .slice i3.oa j3.length i3.cap]) rfl [.slice i1.oa j1.length i1.cap, .slice i2.oa j2.length i2.cap, .slice i3.oa j3.length i3.cap] rfl [.slice none 0 0, .slice none 0 0, .slice none 0 0] 27 (heap_alloc_new W7 (.cells #[.slice none 0 0, .slice none 0 0, .slice none 0 0] 27)) (Nat.le_refl _) (show (Tryz.prog.info? 27).map (·.size) = some 3 by kernel_rfl) ?c7 W7.heap.size (Nat.le_refl _) (W7.alloc (.cells #[.slice none 0 0, .slice none 0 0, .slice none 0 0] 27)) (Below.refl _ _) ?_; rotate_left; intro W8 hb hbx hoth))
    case c7 => first | exact ⟨rfl, rfl, rfl⟩ | (intro v hv; simp at hv; first | (rcases hv with rfl | rfl | rfl <;> rfl) | (subst hv; rfl))
    obtain ⟨N15, hN⟩ : ∃ N, N = W7.heap.size := ⟨_, rfl⟩
    have hb1 : Below W7.heap.size W7 W8 := (alloc_below W7 (.cells #[.slice none 0 0, .slice none 0 0, .slice none 0 0] 27)).trans hb
    have HB8 := Lib.hid (HB7.out.trans (hb1.mono HB7.out.size))
    have HC2_8 := Lib.hid (HC2_7.out.trans (hb1.mono HC2_7.out.size))
    have HC3_8 := Lib.hid (HC3_7.out.trans (hb1.mono HC3_7.out.size))
    have HC4_8 := Lib.hid (HC4_7.out.trans (hb1.mono HC4_7.out.size))
    have HC5_8 := Lib.hid (HC5_7.out.trans (hb1.mono HC5_7.out.size))
    have HC7_8 := Lib.hid (HC7_7.out.trans (hb1.mono HC7_7.out.size))
    have HX15 := Lib.hid (show W8.heap[N15]? = some (.cells #[.slice i1.oa j1.length i1.cap, .slice i2.oa j2.length i2.cap, .slice i3.oa j3.length i3.cap] 27) by rw [hN]; exact hbx)
    have HC8_8 := Lib.hid (Below.refl W8.heap.size W8)
    simp only [← hN]
    clear hb hbx hoth hb1 hN
    go_upto_region 15 with ((refine wpList_store_box rfl 27 (.tmp 18) (.tmp 82) rfl W8.heap.size 0 rfl (.agg #[.slice none 0 0, .slice none 0 0, .slice none 0 0]) rfl [.slice none 0 0, .slice none 0 0, .slice none 0 0] rfl [.slice none 0 0, .slice none 0 0, .slice none 0 0] 27 (heap_alloc_new W8 (.cells #[.slice none 0 0, .slice none 0 0, .slice none 0 0] 27)) (Nat.le_refl _) (show (Tryz.prog.info? 27).map (·.size) = some 3 by kernel_rfl) ?c8 W8.heap.size (Nat.le_refl _) (W8.alloc (.cells #[.slice none 0 0, .slice none 0 0, .slice none 0 0] 27)) (Below.refl _ _) ?_; rotate_left; intro W9 hb hbx hoth))
    case c8 => first | exact ⟨rfl, rfl, rfl⟩ | (intro v hv; simp at hv; first | (rcases hv with rfl | rfl | rfl <;> rfl) | (subst hv; rfl))
    obtain ⟨K, hK⟩ : ∃ K, K = W8.heap.size := ⟨_, rfl⟩
    have hb9 : Below W8.heap.size W8 W9 := (alloc_below W8 (.cells #[.slice none 0 0, .slice none 0 0, .slice none 0 0] 27)).trans hb
    have HB9 := Lib.hid (HB8.out.trans (hb9.mono HB8.out.size))
    have hx6 : W8.heap[N6]? = some (.cells #[.slice y1.oa x1.length y1.cap, .slice y2.oa x2.length y2.cap, .slice y3.oa x3.length y3.cap] 27) := (HC3_8.out.block N6 (blk_lt HX6.out)).trans HX6.out
    have hx9 : W8.heap[N9]? = some (.cells #[.slice u1.oa v1.length u1.cap, .slice u2.oa v2.length u2.cap, .slice u3.oa v3.length u3.cap] 27) := (HC5_8.out.block N9 (blk_lt HX9.out)).trans HX9.out
    have hx15 : W8.heap[N15]? = some (.cells #[.slice i1.oa j1.length i1.cap, .slice i2.oa j2.length i2.cap, .slice i3.oa j3.length i3.cap] 27) := HX15.out
    have hl6 : N6 < K := by rw [hK]; exact Nat.lt_of_lt_of_le (blk_lt HX6.out) HC3_8.out.size
    have hl9 : N9 < K := by rw [hK]; exact Nat.lt_of_lt_of_le (blk_lt HX9.out) HC5_8.out.size
    have hl15 : N15 < K := by rw [hK]; exact blk_lt HX15.out
    have HX6_9 := Lib.hid (And.intro hx6 hl6)
    have HX9_9 := Lib.hid (And.intro hx9 hl9)
    have HX15_9 := Lib.hid (And.intro hx15 hl15)
    have hxk : W9.heap[K]? = some (.cells #[.slice none 0 0, .slice none 0 0, .slice none 0 0] 27) := by rw [hK]; exact hbx
    have HST9 := Lib.hid (show StG K W8 W9 (.slice none 0 0) (.slice none 0 0) (.slice none 0 0) [] [] [] from ⟨by rw [hK]; exact hb9, hxk, World.ownsRow_nil _ _ _ _, World.ownsRow_nil _ _ _ _, World.ownsRow_nil _ _ _ _⟩)
    have HSX := Lib.hid (SoH.below HXH2.out HC2_8.out)
    have HSY := Lib.hid (SoH.below HXH4.out HC4_8.out)
    have HSZ := Lib.hid (SoH.below HXH7.out HC7_8.out)
    have HKL := Lib.hid hK
    have HWK := Lib.hid (show w.heap.size ≤ K by rw [hK]; exact HB8.out.size)
    obtain ⟨A1, hA1⟩ : ∃ m, x1.length = m := ⟨_, rfl⟩
    obtain ⟨B1, hB1⟩ : ∃ m, v1.length = m := ⟨_, rfl⟩
    obtain ⟨M1, hM1⟩ : ∃ m, A1 + B1 = m := ⟨_, rfl⟩
    obtain ⟨A2, hA2⟩ : ∃ m, x2.length = m := ⟨_, rfl⟩
    obtain ⟨B2, hB2⟩ : ∃ m, v2.length = m := ⟨_, rfl⟩
    obtain ⟨M2, hM2⟩ : ∃ m, A2 + B2 = m := ⟨_, rfl⟩
    obtain ⟨A3, hA3⟩ : ∃ m, x3.length = m := ⟨_, rfl⟩
    obtain ⟨B3, hB3⟩ : ∃ m, v3.length = m := ⟨_, rfl⟩
    obtain ⟨M3, hM3⟩ : ∃ m, A3 + B3 = m := ⟨_, rfl⟩
    have HLA := Lib.hid (And.intro hA1 (And.intro hA2 hA3))
    have HLB := Lib.hid (And.intro hB1 (And.intro hB2 hB3))
    have HLM := Lib.hid (And.intro hM1 (And.intro hM2 hM3))
    have HBD := Lib.hid (show A1 ≤ 7001 ∧ A2 ≤ 7001 ∧ A3 ≤ 7001 ∧ B1 ≤ 7001 ∧ B2 ≤ 7001 ∧ B3 ≤ 7001 by
      have e1 := HXE2.out
      have e2 := HXE4.out
      have q1 := HCX.out
      have q2 := HCY.out
      rw [← e1] at q1
      rw [← e2] at q2
      simp only [erSo, List.length_map] at q1 q2
      omega)
    have HX6_9 := Lib.hid (show W8.heap[N6]? = some (.cells #[.slice y1.oa A1 y1.cap, .slice y2.oa A2 y2.cap, .slice y3.oa A3 y3.cap] 27) ∧ N6 < K from ⟨by rw [← hA1, ← hA2, ← hA3]; exact hx6, hl6⟩)
    have HX9_9 := Lib.hid (show W8.heap[N9]? = some (.cells #[.slice u1.oa B1 u1.cap, .slice u2.oa B2 u2.cap, .slice u3.oa B3 u3.cap] 27) ∧ N9 < K from ⟨by rw [← hB1, ← hB2, ← hB3]; exact hx9, hl9⟩)
    simp only [← hK]
    clear hb hbx hoth hb9 hK hx6 hx9 hx15 hl6 hl9 hl15 hxk hA1 hA2 hA3 hB1 hB2 hB3 hM1 hM2 hM3
    have hst := HST9.out
    obtain ⟨d0, d1, d2, df, dl⟩ := cells3p hst.box
    obtain ⟨e0, e1, e2, ef, el⟩ := cells3p ((hst.bel.block N6 HX6_9.out.2).trans HX6_9.out.1)
    clear hst
    go_wp2_with (at_builtin; go_loud (refine wpList_append_row rfl (.tmp 84) (.tmp 86) 23 rfl (K + 1) 47 iS _ 4 56 Tryz.underlying23 HIS.out.1 HIS.out.2.1 HIS.out.2.2.1 HIS.out.2.2.2 rfl (by decide) (.slice none 0 0) 0 (([] : List Su5).flatMap suC) rfl ?o1 (h := y1) (l := x1) y1.oa A1 y1.cap A1 rfl rfl HLA.out.1 (Nat.zero_add _) (Row.below HSX.out.1 (HKL.out ▸ HST9.out.bel) fun _ _ h => SuH.below h (HKL.out ▸ HST9.out.bel)) suC_len suC_one ?o3 ?o4 ?o5 ?_))
    case o1 => have h := HST9.out.o1; skip; exact h
    case o3 => have := HBD.out; have := HLM.out; unfold maxLen; omega
    case o4 => have := HBD.out; have := HLM.out; omega
    case o5 => exact HST9.out.lt
    clear d0 d1 d2 df dl e0 e1 e2 ef el
    intro p15 q15 w' hown hg hv
    have hbk : w'.heap[K]? = some (.cells #[.slice none 0 0, .slice none 0 0, .slice none 0 0] 27) := (hg.block K HST9.out.lt fun e => by have := (own_lt HST9.out.o1 e.symm).1; omega).trans HST9.out.box
    obtain ⟨d0, d1, d2, df, dl⟩ := cells3p hbk
    have hS := HST9.out.s1 (l := x1) (by simp only [List.nil_append]; exact HLA.out.1) hown hg
    clear hown hg hv hbk
    go_upto_region 16 with fail
    clear d0 d1 d2 df dl
    obtain ⟨W10, hW⟩ : ∃ W, W = w'.setCell ⟨K, 0, none⟩ (.slice p15 A1 q15) := ⟨_, rfl⟩
    rw [← hW]
    rw [← hW] at hS
    have HST10 := Lib.hid hS
    clear hW hS
    have hst := HST10.out
    obtain ⟨d0, d1, d2, df, dl⟩ := cells3p hst.box
    obtain ⟨e0, e1, e2, ef, el⟩ := cells3p ((hst.bel.block N9 HX9_9.out.2).trans HX9_9.out.1)
    clear hst
    go_wp2_with (at_builtin; go_loud (refine wpList_append_row rfl (.tmp 90) (.tmp 92) 23 rfl (K + 1) 47 iS _ 4 56 Tryz.underlying23 HIS.out.1 HIS.out.2.1 HIS.out.2.2.1 HIS.out.2.2.2 rfl (by decide) (.slice p15 A1 q15) A1 ((([] : List Su5) ++ x1).flatMap suC) rfl ?o1 (h := u1) (l := v1) u1.oa B1 u1.cap M1 rfl rfl HLB.out.1 HLM.out.1 (Row.below HSY.out.1 (HKL.out ▸ HST10.out.bel) fun _ _ h => SuH.below h (HKL.out ▸ HST10.out.bel)) suC_len suC_one ?o3 ?o4 ?o5 ?_))
    case o1 => have h := HST10.out.o1; rw [show ((([] : List Su5) ++ x1)).length = A1 from by simp only [List.nil_append]; exact HLA.out.1] at h; exact h
    case o3 => have := HBD.out; have := HLM.out; unfold maxLen; omega
    case o4 => have := HBD.out; have := HLM.out; omega
    case o5 => exact HST10.out.lt
    clear d0 d1 d2 df dl e0 e1 e2 ef el
    intro p16 q16 w' hown hg hv
    have hbk : w'.heap[K]? = some (.cells #[.slice p15 A1 q15, .slice none 0 0, .slice none 0 0] 27) := (hg.block K HST10.out.lt fun e => by have := (own_lt HST10.out.o1 e.symm).1; omega).trans HST10.out.box
    obtain ⟨d0, d1, d2, df, dl⟩ := cells3p hbk
    have hS := HST10.out.s1 (l := v1) (by simp only [List.nil_append, List.length_append]; rw [HLA.out.1, HLB.out.1]; exact HLM.out.1) hown hg
    clear hown hg hv hbk
    go_upto_region 17 with fail
    clear d0 d1 d2 df dl
    obtain ⟨W11, hW⟩ : ∃ W, W = w'.setCell ⟨K, 0, none⟩ (.slice p16 M1 q16) := ⟨_, rfl⟩
    rw [← hW]
    rw [← hW] at hS
    have HST11 := Lib.hid hS
    clear hW hS
    have hst := HST11.out
    obtain ⟨d0, d1, d2, df, dl⟩ := cells3p hst.box
    obtain ⟨e0, e1, e2, ef, el⟩ := cells3p ((hst.bel.block N6 HX6_9.out.2).trans HX6_9.out.1)
    clear hst
    go_wp2_with (at_builtin; go_loud (refine wpList_append_row rfl (.tmp 96) (.tmp 98) 24 rfl (K + 1) 62 iE _ 3 48 Tryz.underlying24 HIE.out.1 HIE.out.2.1 HIE.out.2.2.1 HIE.out.2.2.2 rfl (by decide) (.slice none 0 0) 0 (([] : List En5).flatMap enC) rfl ?o1 (h := y2) (l := x2) y2.oa A2 y2.cap A2 rfl rfl HLA.out.2.1 (Nat.zero_add _) (Row.below HSX.out.2.1 (HKL.out ▸ HST11.out.bel) fun _ _ h => EnH.below h (HKL.out ▸ HST11.out.bel)) enC_len enC_one ?o3 ?o4 ?o5 ?_))
    case o1 => have h := HST11.out.o2; skip; exact h
    case o3 => have := HBD.out; have := HLM.out; unfold maxLen; omega
    case o4 => have := HBD.out; have := HLM.out; omega
    case o5 => exact HST11.out.lt
    clear d0 d1 d2 df dl e0 e1 e2 ef el
    intro p17 q17 w' hown hg hv
    have hbk : w'.heap[K]? = some (.cells #[.slice p16 M1 q16, .slice none 0 0, .slice none 0 0] 27) := (hg.block K HST11.out.lt fun e => by have := (own_lt HST11.out.o2 e.symm).1; omega).trans HST11.out.box
    obtain ⟨d0, d1, d2, df, dl⟩ := cells3p hbk
    have hS := HST11.out.s2 (le := x2) (by simp only [List.nil_append]; exact HLA.out.2.1) hown hg
    clear hown hg hv hbk
    go_upto_region 18 with fail
    clear d0 d1 d2 df dl
    obtain ⟨W12, hW⟩ : ∃ W, W = w'.setCell ⟨K, 1, none⟩ (.slice p17 A2 q17) := ⟨_, rfl⟩
    rw [← hW]
    rw [← hW] at hS
    have HST12 := Lib.hid hS
    clear hW hS
    have hst := HST12.out
    obtain ⟨d0, d1, d2, df, dl⟩ := cells3p hst.box
    obtain ⟨e0, e1, e2, ef, el⟩ := cells3p ((hst.bel.block N9 HX9_9.out.2).trans HX9_9.out.1)
    clear hst
    go_wp2_with (at_builtin; go_loud (refine wpList_append_row rfl (.tmp 102) (.tmp 104) 24 rfl (K + 1) 62 iE _ 3 48 Tryz.underlying24 HIE.out.1 HIE.out.2.1 HIE.out.2.2.1 HIE.out.2.2.2 rfl (by decide) (.slice p17 A2 q17) A2 ((([] : List En5) ++ x2).flatMap enC) rfl ?o1 (h := u2) (l := v2) u2.oa B2 u2.cap M2 rfl rfl HLB.out.2.1 HLM.out.2.1 (Row.below HSY.out.2.1 (HKL.out ▸ HST12.out.bel) fun _ _ h => EnH.below h (HKL.out ▸ HST12.out.bel)) enC_len enC_one ?o3 ?o4 ?o5 ?_))
    case o1 => have h := HST12.out.o2; rw [show ((([] : List En5) ++ x2)).length = A2 from by simp only [List.nil_append]; exact HLA.out.2.1] at h; exact h
    case o3 => have := HBD.out; have := HLM.out; unfold maxLen; omega
    case o4 => have := HBD.out; have := HLM.out; omega
    case o5 => exact HST12.out.lt
    clear d0 d1 d2 df dl e0 e1 e2 ef el
    intro p18 q18 w' hown hg hv
    have hbk : w'.heap[K]? = some (.cells #[.slice p16 M1 q16, .slice p17 A2 q17, .slice none 0 0] 27) := (hg.block K HST12.out.lt fun e => by have := (own_lt HST12.out.o2 e.symm).1; omega).trans HST12.out.box
    obtain ⟨d0, d1, d2, df, dl⟩ := cells3p hbk
    have hS := HST12.out.s2 (le := v2) (by simp only [List.nil_append, List.length_append]; rw [HLA.out.2.1, HLB.out.2.1]; exact HLM.out.2.1) hown hg
    clear hown hg hv hbk
    go_upto_region 19 with fail
    clear d0 d1 d2 df dl
    obtain ⟨W13, hW⟩ : ∃ W, W = w'.setCell ⟨K, 1, none⟩ (.slice p18 M2 q18) := ⟨_, rfl⟩
    rw [← hW]
    rw [← hW] at hS
    have HST13 := Lib.hid hS
    clear hW hS
    have hst := HST13.out
    obtain ⟨d0, d1, d2, df, dl⟩ := cells3p hst.box
    obtain ⟨e0, e1, e2, ef, el⟩ := cells3p ((hst.bel.block N6 HX6_9.out.2).trans HX6_9.out.1)
    clear hst
    go_wp2_with (at_builtin; go_loud (refine wpList_append_row rfl (.tmp 108) (.tmp 110) 25 rfl (K + 1) 68 iF _ 4 72 Tryz.underlying25 HIF.out.1 HIF.out.2.1 HIF.out.2.2.1 HIF.out.2.2.2 rfl (by decide) (.slice none 0 0) 0 (([] : List Fn5).flatMap fnC) rfl ?o1 (h := y3) (l := x3) y3.oa A3 y3.cap A3 rfl rfl HLA.out.2.2 (Nat.zero_add _) (Row.below HSX.out.2.2 (HKL.out ▸ HST13.out.bel) fun _ _ h => FnH.below h (HKL.out ▸ HST13.out.bel)) fnC_len fnC_one ?o3 ?o4 ?o5 ?_))
    case o1 => have h := HST13.out.o3; skip; exact h
    case o3 => have := HBD.out; have := HLM.out; unfold maxLen; omega
    case o4 => have := HBD.out; have := HLM.out; omega
    case o5 => exact HST13.out.lt
    clear d0 d1 d2 df dl e0 e1 e2 ef el
    intro p19 q19 w' hown hg hv
    have hbk : w'.heap[K]? = some (.cells #[.slice p16 M1 q16, .slice p18 M2 q18, .slice none 0 0] 27) := (hg.block K HST13.out.lt fun e => by have := (own_lt HST13.out.o3 e.symm).1; omega).trans HST13.out.box
    obtain ⟨d0, d1, d2, df, dl⟩ := cells3p hbk
    have hS := HST13.out.s3 (lf := x3) (by simp only [List.nil_append]; exact HLA.out.2.2) hown hg
    clear hown hg hv hbk
    go_upto_region 20 with fail
    clear d0 d1 d2 df dl
    obtain ⟨W14, hW⟩ : ∃ W, W = w'.setCell ⟨K, 2, none⟩ (.slice p19 A3 q19) := ⟨_, rfl⟩
    rw [← hW]
    rw [← hW] at hS
    have HST14 := Lib.hid hS
    clear hW hS
    have hst := HST14.out
    obtain ⟨d0, d1, d2, df, dl⟩ := cells3p hst.box
    obtain ⟨e0, e1, e2, ef, el⟩ := cells3p ((hst.bel.block N9 HX9_9.out.2).trans HX9_9.out.1)
    clear hst
    go_wp2_with (at_builtin; go_loud (refine wpList_append_row rfl (.tmp 114) (.tmp 116) 25 rfl (K + 1) 68 iF _ 4 72 Tryz.underlying25 HIF.out.1 HIF.out.2.1 HIF.out.2.2.1 HIF.out.2.2.2 rfl (by decide) (.slice p19 A3 q19) A3 ((([] : List Fn5) ++ x3).flatMap fnC) rfl ?o1 (h := u3) (l := v3) u3.oa B3 u3.cap M3 rfl rfl HLB.out.2.2 HLM.out.2.2 (Row.below HSY.out.2.2 (HKL.out ▸ HST14.out.bel) fun _ _ h => FnH.below h (HKL.out ▸ HST14.out.bel)) fnC_len fnC_one ?o3 ?o4 ?o5 ?_))
    case o1 => have h := HST14.out.o3; rw [show ((([] : List Fn5) ++ x3)).length = A3 from by simp only [List.nil_append]; exact HLA.out.2.2] at h; exact h
    case o3 => have := HBD.out; have := HLM.out; unfold maxLen; omega
    case o4 => have := HBD.out; have := HLM.out; omega
    case o5 => exact HST14.out.lt
    clear d0 d1 d2 df dl e0 e1 e2 ef el
    intro p20 q20 w' hown hg hv
    have hbk : w'.heap[K]? = some (.cells #[.slice p16 M1 q16, .slice p18 M2 q18, .slice p19 A3 q19] 27) := (hg.block K HST14.out.lt fun e => by have := (own_lt HST14.out.o3 e.symm).1; omega).trans HST14.out.box
    obtain ⟨d0, d1, d2, df, dl⟩ := cells3p hbk
    have hS := HST14.out.s3 (lf := v3) (by simp only [List.nil_append, List.length_append]; rw [HLA.out.2.2, HLB.out.2.2]; exact HLM.out.2.2) hown hg
    clear hown hg hv hbk
    go_upto_region 21 with fail
    clear d0 d1 d2 df dl
    obtain ⟨W15, hW⟩ : ∃ W, W = w'.setCell ⟨K, 2, none⟩ (.slice p20 M3 q20) := ⟨_, rfl⟩
    rw [← hW]
    rw [← hW] at hS
    have HST15 := Lib.hid hS
    clear hW hS
    have hst := HST15.out
    obtain ⟨d0, d1, d2, df, dl⟩ := cells3p hst.box
    obtain ⟨e0, e1, e2, ef, el⟩ := cells3p ((hst.bel.block N15 HX15_9.out.2).trans HX15_9.out.1)
    have hbl : Below W8.heap.size W8 W15 := HKL.out ▸ hst.bel
    have hsx := SoH.below HSX.out hbl
    have hsy := SoH.below HSY.out hbl
    have hsz := SoH.below HSZ.out hbl
    have hr1 : W15.ownsRow (K + 1) 47 4 (.slice p16 M1 q16) (((([] : List Su5) ++ x1) ++ v1)).length ((((([] : List Su5) ++ x1) ++ v1)).flatMap suC) := hst.o1
    obtain ⟨k1, hk1, hR1⟩ := row_of_own hr1 suC_len (Q := SuH 181 W15) fun z hz => by simp at hz; rcases hz with hz | hz; exact hsx.1.2.2.2 z hz; exact hsy.1.2.2.2 z hz
    obtain ⟨k2, hk2, hR2⟩ := row_of_own hst.o2 enC_len (Q := EnH 181 W15) fun z hz => by simp at hz; rcases hz with hz | hz; exact hsx.2.1.2.2.2 z hz; exact hsy.2.1.2.2.2 z hz
    obtain ⟨k3, hk3, hR3⟩ := row_of_own hst.o3 fnC_len (Q := FnH 181 W15) fun z hz => by simp at hz; rcases hz with hz | hz; exact hsx.2.2.2.2.2 z hz; exact hsy.2.2.2.2.2 z hz
    have hse : soEq ⟨i1, j1, i2, j2, i3, j3⟩ ⟨k1, ((([] : List Su5) ++ x1) ++ v1), k2, ((([] : List En5) ++ x2) ++ v2), k3, ((([] : List Fn5) ++ x3) ++ v3)⟩ = true := so_er (by
      rw [HXE7.out, ← HG.out, ← HXE2.out, ← HXE4.out]
      simp [erSo, joinS])
    have hsc := same_any 181 ⟨i1, j1, i2, j2, i3, j3⟩ ⟨k1, ((([] : List Su5) ++ x1) ++ v1), k2, ((([] : List En5) ++ x2) ++ v2), k3, ((([] : List Fn5) ++ x3) ++ v3)⟩ W15 hsz ⟨hR1, hR2, hR3⟩
    rw [hse] at hsc
    simp only [soV] at hsc
    rw [← hk1, ← hk2, ← hk3] at hsc
    have HSC := Lib.hid hsc
    have HBF := Lib.hid (HB8.out.trans (hst.bel.mono HWK.out))
    clear hst hbl hsx hsy hsz hr1 hk1 hR1 hk2 hR2 hk3 hR3 hse hsc
    go_wp2_with (go_at_call 19; refine HSC.out.mono ?_; rintro e8 W16 ⟨rfl, hb8⟩; have HB16 := Lib.hid (HBF.out.trans (hb8.mono HBF.out.size)); clear hb8)
    go_ret
    exact ⟨rfl, HB16.out⟩
end Go.Proofs.YtggdpgaedmegbaaGreatDoor
