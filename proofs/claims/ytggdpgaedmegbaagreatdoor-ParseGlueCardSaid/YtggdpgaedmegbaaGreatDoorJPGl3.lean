/-
  Several texts of the proof in one: PGl2, PGl3. No conditions of their own: each lemma states its own.
-/
import Derived.Test.YtggdpgaedmegbaaGreatDoorJPGl1
namespace Go.Proofs.YtggdpgaedmegbaaGreatDoor
open Go.RowKit

set_option maxRecDepth 100000 in
set_option maxHeartbeats 40000000 in
theorem glue_bad (a b : ByteArray) (w : World) (hV : Vars w) (ha : a.size ≤ 3000) (hb : b.size ≤ 3000) {x : So5} {r : List Tok} (hpa : parseR a = .ok x r) {er : Int} {q : Nat} (hl : lexL (bs b) = .bad er q) : Calls Tryz.prog 4 #[.string a, .string b] w fun e w' => e = .returned (.bool true) ∧ Below w.heap.size w w' := by
  have t1 : decide ((a.size : Int) > 3000) = false := by simp; omega
  have t2 : decide ((b.size : Int) > 3000) = false := by simp; omega
  have has : (a ++ ⟨#[10]⟩ : ByteArray).size = a.size + 1 := by simp; rfl
  have z1 : ¬ 9223372036854775807 < a.size + 1 := by omega
  have z2 : ¬ 9223372036854775807 < (a ++ ⟨#[10]⟩ : ByteArray).size + b.size := by omega
  have z3 : ¬ 9223372036854775807 < a.size + 1 + b.size := by omega
  have HV := Lib.hid hV
  obtain ⟨c, hcc⟩ : ∃ c, (a ++ ⟨#[10]⟩ ++ b : ByteArray) = c := ⟨_, rfl⟩
  have HCC := Lib.hid hcc
  have hpb : parseR b = .no er q := by unfold parseR; rw [hl]
  have hne : (er != 0) = true := by simpa using parse_nz hpb
  have HPA := Lib.hid hpa
  have HPB := Lib.hid hpb
  have HL := Lib.hid hl
  clear hV ha hb hpa hpb hl has hcc
  go_enter Tryz.func4, Tryz.ntmps4
  go_upto_region 7 with
    (first
      | (go_at_call 14; refine (works_any w HV.out).mono ?_; rintro e W1 ⟨rfl, hb1⟩; have HB1 := Lib.hid hb1; clear hb1)
      | (go_at_call 15; refine (parse_any a W1 (HV.out.b HB1.out)).mono ?_; rintro e0 W2 ⟨hb1, h1⟩; unfold ReadOut at h1; rw [HPA.out] at h1; simp only at h1; obtain ⟨⟨y1, x1, y2, x2, y3, x3⟩, rfl, hxe, hxh⟩ := h1; simp only [soV]; have HB2 := Lib.hid (HB1.out.trans (hb1.mono HB1.out.size)); have HXE2 := Lib.hid hxe; have HXH2 := Lib.hid (SoH.und 181 _ _ _ (eb_full _ _ _) hxh); clear hb1 hxe hxh)
      | (refine wpList_store_box rfl 27 (.tmp 6) (.tmp 34) rfl W2.heap.size 0 rfl (.agg #[.slice y1.oa x1.length y1.cap, .slice y2.oa x2.length y2.cap, .slice y3.oa x3.length y3.cap]) rfl [.slice y1.oa x1.length y1.cap, .slice y2.oa x2.length y2.cap, .slice y3.oa x3.length y3.cap] rfl [.slice none 0 0, .slice none 0 0, .slice none 0 0] 27 (heap_alloc_new W2 (.cells #[.slice none 0 0, .slice none 0 0, .slice none 0 0] 27)) (Nat.le_refl _) (show (Tryz.prog.info? 27).map (·.size) = some 3 by kernel_rfl) ?c2 W2.heap.size (Nat.le_refl _) (W2.alloc (.cells #[.slice none 0 0, .slice none 0 0, .slice none 0 0] 27)) (Below.refl _ _) ?_; rotate_left; intro W3 hb hbx hoth))
  case c2 => first | exact ⟨rfl, rfl, rfl⟩ | (intro v hv; simp at hv; first | (rcases hv with rfl | rfl | rfl <;> rfl) | (subst hv; rfl))
  obtain ⟨N6, hN⟩ : ∃ N, N = W2.heap.size := ⟨_, rfl⟩
  have hb1 : Below W2.heap.size W2 W3 := (alloc_below W2 (.cells #[.slice none 0 0, .slice none 0 0, .slice none 0 0] 27)).trans hb
  have HB3 := Lib.hid (HB2.out.trans (hb1.mono HB2.out.size))
  have HX6 := Lib.hid (show W3.heap[N6]? = some (.cells #[.slice y1.oa x1.length y1.cap, .slice y2.oa x2.length y2.cap, .slice y3.oa x3.length y3.cap] 27) by rw [hN]; exact hbx)
  have HC3_3 := Lib.hid (Below.refl W3.heap.size W3)
  simp only [← hN]
  clear hb hbx hoth hb1 hN
  go_upto_region 8 with
    (first
      | (go_at_call 15; refine (parse_any b W3 (HV.out.b HB3.out)).mono ?_; rintro e0 W4 ⟨hb1, h1⟩; unfold ReadOut at h1; rw [HPB.out] at h1; simp only at h1; subst h1; have HB4 := Lib.hid (HB3.out.trans (hb1.mono HB3.out.size)); have HC3_4 := Lib.hid (HC3_3.out.trans (hb1.mono HC3_3.out.size)); clear hb1)
      | (refine wpList_store_box rfl 27 (.tmp 9) (.tmp 40) rfl W4.heap.size 0 rfl (.agg #[.slice none 0 0, .slice none 0 0, .slice none 0 0]) rfl [.slice none 0 0, .slice none 0 0, .slice none 0 0] rfl [.slice none 0 0, .slice none 0 0, .slice none 0 0] 27 (heap_alloc_new W4 (.cells #[.slice none 0 0, .slice none 0 0, .slice none 0 0] 27)) (Nat.le_refl _) (show (Tryz.prog.info? 27).map (·.size) = some 3 by kernel_rfl) ?c4 W4.heap.size (Nat.le_refl _) (W4.alloc (.cells #[.slice none 0 0, .slice none 0 0, .slice none 0 0] 27)) (Below.refl _ _) ?_; rotate_left; intro W5 hb hbx hoth))
  case c4 => first | exact ⟨rfl, rfl, rfl⟩ | (intro v hv; simp at hv; first | (rcases hv with rfl | rfl | rfl <;> rfl) | (subst hv; rfl))
  obtain ⟨N9, hN⟩ : ∃ N, N = W4.heap.size := ⟨_, rfl⟩
  have hb1 : Below W4.heap.size W4 W5 := (alloc_below W4 (.cells #[.slice none 0 0, .slice none 0 0, .slice none 0 0] 27)).trans hb
  have HB5 := Lib.hid (HB4.out.trans (hb1.mono HB4.out.size))
  have HC3_5 := Lib.hid (HC3_4.out.trans (hb1.mono HC3_4.out.size))
  have HX9 := Lib.hid (show W5.heap[N9]? = some (.cells #[.slice none 0 0, .slice none 0 0, .slice none 0 0] 27) by rw [hN]; exact hbx)
  have HC5_5 := Lib.hid (Below.refl W5.heap.size W5)
  simp only [← hN]
  clear hb hbx hoth hb1 hN
  go_upto_region 9 with (go_at_call 18; refine (lex_any b W5 (HV.out.b HB5.out)).mono ?_; rintro e0 W6 ⟨h1, hb1⟩; unfold LexOut at h1; rw [HL.out] at h1; simp only at h1; subst h1; have HB6 := Lib.hid (HB5.out.trans (hb1.mono HB5.out.size)); have HC3_6 := Lib.hid (HC3_5.out.trans (hb1.mono HC3_5.out.size)); have HC5_6 := Lib.hid (HC5_5.out.trans (hb1.mono HC5_5.out.size)); clear hb1)
  go_upto_region 10 with
    (first
      | (go_at_call 15; rw [HCC.out]; refine (parse_some c W6 (HV.out.b HB6.out)).mono ?_; rintro e0 W7 ⟨hb1, o61, n61, c61, o62, n62, c62, o63, n63, c63, er6, at6, rfl⟩; have HB7 := Lib.hid (HB6.out.trans (hb1.mono HB6.out.size)); have HC3_7 := Lib.hid (HC3_6.out.trans (hb1.mono HC3_6.out.size)); have HC5_7 := Lib.hid (HC5_6.out.trans (hb1.mono HC5_6.out.size)); clear hb1)
      | (refine wpList_store_box rfl 27 (.tmp 15) (.tmp 55) rfl W7.heap.size 0 rfl (.agg #[.slice o61 n61 c61, .slice o62 n62 c62, .slice o63 n63 c63]) rfl [.slice o61 n61 c61, .slice o62 n62 c62, .slice o63 n63 c63] rfl [.slice none 0 0, .slice none 0 0, .slice none 0 0] 27 (heap_alloc_new W7 (.cells #[.slice none 0 0, .slice none 0 0, .slice none 0 0] 27)) (Nat.le_refl _) (show (Tryz.prog.info? 27).map (·.size) = some 3 by kernel_rfl) ?c7 W7.heap.size (Nat.le_refl _) (W7.alloc (.cells #[.slice none 0 0, .slice none 0 0, .slice none 0 0] 27)) (Below.refl _ _) ?_; rotate_left; intro W8 hb hbx hoth))
  case c7 => first | exact ⟨rfl, rfl, rfl⟩ | (intro v hv; simp at hv; first | (rcases hv with rfl | rfl | rfl <;> rfl) | (subst hv; rfl))
  obtain ⟨N15, hN⟩ : ∃ N, N = W7.heap.size := ⟨_, rfl⟩
  have hb1 : Below W7.heap.size W7 W8 := (alloc_below W7 (.cells #[.slice none 0 0, .slice none 0 0, .slice none 0 0] 27)).trans hb
  have HB8 := Lib.hid (HB7.out.trans (hb1.mono HB7.out.size))
  have HC3_8 := Lib.hid (HC3_7.out.trans (hb1.mono HC3_7.out.size))
  have HC5_8 := Lib.hid (HC5_7.out.trans (hb1.mono HC5_7.out.size))
  have HX15 := Lib.hid (show W8.heap[N15]? = some (.cells #[.slice o61 n61 c61, .slice o62 n62 c62, .slice o63 n63 c63] 27) by rw [hN]; exact hbx)
  have HC8_8 := Lib.hid (Below.refl W8.heap.size W8)
  simp only [← hN]
  clear hb hbx hoth hb1 hN
  go_wp2
  go_ret
  exact ⟨rfl, HB8.out⟩
end Go.Proofs.YtggdpgaedmegbaaGreatDoor

namespace Go.Proofs.YtggdpgaedmegbaaGreatDoor
open Go.RowKit

set_option maxRecDepth 100000 in
set_option maxHeartbeats 40000000 in
theorem glue_nob (a b : ByteArray) (w : World) (hV : Vars w) (ha : a.size ≤ 3000) (hb : b.size ≤ 3000) {x : So5} {r : List Tok} (hpa : parseR a = .ok x r) {f : Int} {q : Nat} (hpb : parseR b = .no f q) {tb : List Tok} (hl : lexL (bs b) = .good tb) : Calls Tryz.prog 4 #[.string a, .string b] w fun e w' => e = .returned (.bool true) ∧ Below w.heap.size w w' := by
  have t1 : decide ((a.size : Int) > 3000) = false := by simp; omega
  have t2 : decide ((b.size : Int) > 3000) = false := by simp; omega
  have has : (a ++ ⟨#[10]⟩ : ByteArray).size = a.size + 1 := by simp; rfl
  have z1 : ¬ 9223372036854775807 < a.size + 1 := by omega
  have z2 : ¬ 9223372036854775807 < (a ++ ⟨#[10]⟩ : ByteArray).size + b.size := by omega
  have z3 : ¬ 9223372036854775807 < a.size + 1 + b.size := by omega
  have HV := Lib.hid hV
  obtain ⟨c, hcc⟩ : ∃ c, (a ++ ⟨#[10]⟩ ++ b : ByteArray) = c := ⟨_, rfl⟩
  have HCC := Lib.hid hcc
  have hg := glue_plain ha hb (show bs c = _ by rw [← hcc]; exact bs_glue a b) hpa hl
  rw [hpb] at hg
  cases hpc : parseR c with
  | ok z r3 => rw [hpc] at hg; exact hg.elim
  | no g p =>
    rw [hpc] at hg
    obtain ⟨rfl, rfl, hq⟩ := hg
    have hne : (f != 0) = true := by simpa using parse_nz hpb
    have hw1 : IntKind.i64.wrap ((a.size : Int) + 1) = (a.size : Int) + 1 := by rw [IntKind.wrap_i64]; omega
    have hw2 : IntKind.i64.wrap ((a.size : Int) + 1 + q) = (a.size : Int) + 1 + q := by rw [IntKind.wrap_i64]; omega
    have HW := Lib.hid (And.intro hw1 hw2)
    have HPA := Lib.hid hpa
    have HPB := Lib.hid hpb
    have HPC := Lib.hid hpc
    have HL := Lib.hid hl
    have hqb : (q : Int) ≤ 70000 := by omega
    have hab : (a.size : Int) ≤ 3000 := by omega
    clear hV ha hb hpa hpb hpc hl has hcc hw1 hw2 hq
    go_enter Tryz.func4, Tryz.ntmps4
    go_upto_region 7 with
      (first
        | (go_at_call 14; refine (works_any w HV.out).mono ?_; rintro e W1 ⟨rfl, hb1⟩; have HB1 := Lib.hid hb1; clear hb1)
        | (go_at_call 15; refine (parse_any a W1 (HV.out.b HB1.out)).mono ?_; rintro e0 W2 ⟨hb1, h1⟩; unfold ReadOut at h1; rw [HPA.out] at h1; simp only at h1; obtain ⟨⟨y1, x1, y2, x2, y3, x3⟩, rfl, hxe, hxh⟩ := h1; simp only [soV]; have HB2 := Lib.hid (HB1.out.trans (hb1.mono HB1.out.size)); have HXE2 := Lib.hid hxe; have HXH2 := Lib.hid (SoH.und 181 _ _ _ (eb_full _ _ _) hxh); clear hb1 hxe hxh)
        | (refine wpList_store_box rfl 27 (.tmp 6) (.tmp 34) rfl W2.heap.size 0 rfl (.agg #[.slice y1.oa x1.length y1.cap, .slice y2.oa x2.length y2.cap, .slice y3.oa x3.length y3.cap]) rfl [.slice y1.oa x1.length y1.cap, .slice y2.oa x2.length y2.cap, .slice y3.oa x3.length y3.cap] rfl [.slice none 0 0, .slice none 0 0, .slice none 0 0] 27 (heap_alloc_new W2 (.cells #[.slice none 0 0, .slice none 0 0, .slice none 0 0] 27)) (Nat.le_refl _) (show (Tryz.prog.info? 27).map (·.size) = some 3 by kernel_rfl) ?c2 W2.heap.size (Nat.le_refl _) (W2.alloc (.cells #[.slice none 0 0, .slice none 0 0, .slice none 0 0] 27)) (Below.refl _ _) ?_; rotate_left; intro W3 hb hbx hoth))
    case c2 => first | exact ⟨rfl, rfl, rfl⟩ | (intro v hv; simp at hv; first | (rcases hv with rfl | rfl | rfl <;> rfl) | (subst hv; rfl))
    obtain ⟨N6, hN⟩ : ∃ N, N = W2.heap.size := ⟨_, rfl⟩
    have hb1 : Below W2.heap.size W2 W3 := (alloc_below W2 (.cells #[.slice none 0 0, .slice none 0 0, .slice none 0 0] 27)).trans hb
    have HB3 := Lib.hid (HB2.out.trans (hb1.mono HB2.out.size))
    have HX6 := Lib.hid (show W3.heap[N6]? = some (.cells #[.slice y1.oa x1.length y1.cap, .slice y2.oa x2.length y2.cap, .slice y3.oa x3.length y3.cap] 27) by rw [hN]; exact hbx)
    have HC3_3 := Lib.hid (Below.refl W3.heap.size W3)
    simp only [← hN]
    clear hb hbx hoth hb1 hN
    go_upto_region 8 with
      (first
        | (go_at_call 15; refine (parse_any b W3 (HV.out.b HB3.out)).mono ?_; rintro e0 W4 ⟨hb1, h1⟩; unfold ReadOut at h1; rw [HPB.out] at h1; simp only at h1; subst h1; have HB4 := Lib.hid (HB3.out.trans (hb1.mono HB3.out.size)); have HC3_4 := Lib.hid (HC3_3.out.trans (hb1.mono HC3_3.out.size)); clear hb1)
        | (refine wpList_store_box rfl 27 (.tmp 9) (.tmp 40) rfl W4.heap.size 0 rfl (.agg #[.slice none 0 0, .slice none 0 0, .slice none 0 0]) rfl [.slice none 0 0, .slice none 0 0, .slice none 0 0] rfl [.slice none 0 0, .slice none 0 0, .slice none 0 0] 27 (heap_alloc_new W4 (.cells #[.slice none 0 0, .slice none 0 0, .slice none 0 0] 27)) (Nat.le_refl _) (show (Tryz.prog.info? 27).map (·.size) = some 3 by kernel_rfl) ?c4 W4.heap.size (Nat.le_refl _) (W4.alloc (.cells #[.slice none 0 0, .slice none 0 0, .slice none 0 0] 27)) (Below.refl _ _) ?_; rotate_left; intro W5 hb hbx hoth))
    case c4 => first | exact ⟨rfl, rfl, rfl⟩ | (intro v hv; simp at hv; first | (rcases hv with rfl | rfl | rfl <;> rfl) | (subst hv; rfl))
    obtain ⟨N9, hN⟩ : ∃ N, N = W4.heap.size := ⟨_, rfl⟩
    have hb1 : Below W4.heap.size W4 W5 := (alloc_below W4 (.cells #[.slice none 0 0, .slice none 0 0, .slice none 0 0] 27)).trans hb
    have HB5 := Lib.hid (HB4.out.trans (hb1.mono HB4.out.size))
    have HC3_5 := Lib.hid (HC3_4.out.trans (hb1.mono HC3_4.out.size))
    have HX9 := Lib.hid (show W5.heap[N9]? = some (.cells #[.slice none 0 0, .slice none 0 0, .slice none 0 0] 27) by rw [hN]; exact hbx)
    have HC5_5 := Lib.hid (Below.refl W5.heap.size W5)
    simp only [← hN]
    clear hb hbx hoth hb1 hN
    go_upto_region 9 with (go_at_call 18; refine (lex_any b W5 (HV.out.b HB5.out)).mono ?_; rintro e0 W6 ⟨h1, hb1⟩; unfold LexOut at h1; rw [HL.out] at h1; simp only at h1; obtain ⟨gg, cap, rfl, -, -⟩ := h1; have HB6 := Lib.hid (HB5.out.trans (hb1.mono HB5.out.size)); have HC3_6 := Lib.hid (HC3_5.out.trans (hb1.mono HC3_5.out.size)); have HC5_6 := Lib.hid (HC5_5.out.trans (hb1.mono HC5_5.out.size)); clear hb1)
    go_upto_region 10 with
      (first
        | (go_at_call 15; rw [HCC.out]; refine (parse_any c W6 (HV.out.b HB6.out)).mono ?_; rintro e0 W7 ⟨hb1, h1⟩; unfold ReadOut at h1; rw [HPC.out] at h1; simp only at h1; subst h1; have HB7 := Lib.hid (HB6.out.trans (hb1.mono HB6.out.size)); have HC3_7 := Lib.hid (HC3_6.out.trans (hb1.mono HC3_6.out.size)); have HC5_7 := Lib.hid (HC5_6.out.trans (hb1.mono HC5_6.out.size)); clear hb1)
        | (refine wpList_store_box rfl 27 (.tmp 15) (.tmp 55) rfl W7.heap.size 0 rfl (.agg #[.slice none 0 0, .slice none 0 0, .slice none 0 0]) rfl [.slice none 0 0, .slice none 0 0, .slice none 0 0] rfl [.slice none 0 0, .slice none 0 0, .slice none 0 0] 27 (heap_alloc_new W7 (.cells #[.slice none 0 0, .slice none 0 0, .slice none 0 0] 27)) (Nat.le_refl _) (show (Tryz.prog.info? 27).map (·.size) = some 3 by kernel_rfl) ?c7 W7.heap.size (Nat.le_refl _) (W7.alloc (.cells #[.slice none 0 0, .slice none 0 0, .slice none 0 0] 27)) (Below.refl _ _) ?_; rotate_left; intro W8 hb hbx hoth))
    case c7 => first | exact ⟨rfl, rfl, rfl⟩ | (intro v hv; simp at hv; first | (rcases hv with rfl | rfl | rfl <;> rfl) | (subst hv; rfl))
    obtain ⟨N15, hN⟩ : ∃ N, N = W7.heap.size := ⟨_, rfl⟩
    have hb1 : Below W7.heap.size W7 W8 := (alloc_below W7 (.cells #[.slice none 0 0, .slice none 0 0, .slice none 0 0] 27)).trans hb
    have HB8 := Lib.hid (HB7.out.trans (hb1.mono HB7.out.size))
    have HC3_8 := Lib.hid (HC3_7.out.trans (hb1.mono HC3_7.out.size))
    have HC5_8 := Lib.hid (HC5_7.out.trans (hb1.mono HC5_7.out.size))
    have HX15 := Lib.hid (show W8.heap[N15]? = some (.cells #[.slice none 0 0, .slice none 0 0, .slice none 0 0] 27) by rw [hN]; exact hbx)
    have HC8_8 := Lib.hid (Below.refl W8.heap.size W8)
    simp only [← hN]
    clear hb hbx hoth hb1 hN
    go_wp2
    go_ret
    exact ⟨by simp, HB8.out⟩
end Go.Proofs.YtggdpgaedmegbaaGreatDoor
