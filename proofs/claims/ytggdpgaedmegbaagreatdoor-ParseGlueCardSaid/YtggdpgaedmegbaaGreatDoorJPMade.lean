/-
  What is made. Conditions: the reader lies in the heap.
-/
import Derived.Test.YtggdpgaedmegbaaGreatDoorJPSet
namespace Go.Proofs.YtggdpgaedmegbaaGreatDoor
open Go.RowKit

theorem set_box {w : World} {P j : Nat} {v : Value} {zs : Array Value} {t : TypeId} (h : w.heap[P]? = some (.cells zs t)) :
    Below P w (w.setCell ⟨P, j, none⟩ v) ∧ (∀ x, x ≠ P → (w.setCell ⟨P, j, none⟩ v).heap[x]? = w.heap[x]?) ∧ (w.setCell ⟨P, j, none⟩ v).heap[P]? = some (.cells (zs.setIfInBounds j v) t) := by
  have hn : ∀ x, x ≠ P → (w.setCell ⟨P, j, none⟩ v).heap[x]? = w.heap[x]? := fun x hx => Below.heap_setCell _ _ _ _ hx
  refine ⟨⟨rfl, rfl, rfl, by simp [World.setCell], fun x hx => hn x (by omega)⟩, hn, ?_⟩
  have := heap_setCell_same w P j _ _ v h
  simpa using this
set_option maxRecDepth 100000 in
set_option maxHeartbeats 4000000 in
theorem r_made {w : World} {b g cap : Nat} {ts : List Tok} {i dp : Nat} (H : RdAt w b g cap ts i dp) :
    Calls Tryz.prog 342 #[.pointer (some ⟨b, 0, none⟩)] w (RPost w b g cap ts i dp (madeR (ts.drop i)) VRv) := by
  obtain ⟨r, hQ⟩ : ∃ r, madeR (ts.drop i) = r := ⟨_, rfl⟩
  rw [hQ]
  have HQ := Lib.hid hQ
  clear hQ
  have HGB := Lib.hid (And.intro H.toks.1 H.vars.size)
  have HBW := Lib.hid (show b < w.heap.size from (Array.getElem?_eq_some_iff.1 H.at_).1)
  have HJ0 := Lib.hid (Nat.le_refl i)
  obtain ⟨W0, hW⟩ : ∃ W0, W0 = w.alloc (.cells #[.int .i64 0, .slice none 0 0, .string ⟨#[]⟩, .slice none 0 0, .string ⟨#[]⟩, .string ⟨#[]⟩] 103) := ⟨_, rfl⟩
  have hbW : Below w.heap.size w W0 := by rw [hW]; exact alloc_below _ _
  have hx0 : W0.heap[w.heap.size]? = some (.cells #[.int .i64 0, .slice none 0 0, .string ⟨#[]⟩, .slice none 0 0, .string ⟨#[]⟩, .string ⟨#[]⟩] 103) := by rw [hW, heap_alloc_new]
  have HH0 := Lib.hid (H.under hbW)
  have HK0 := Lib.hid (Kb.of_below (b := b) hbW)
  obtain ⟨B, hB⟩ : ∃ B, B = w.heap.size := ⟨_, rfl⟩
  rw [← hB] at hx0
  have HX0 := Lib.hid hx0
  clear hbW hx0 H
  go_enter Tryz.func342, Tryz.ntmps342
  go_upto_region 1 with fail
  rw [← hW]
  simp only [← hB]
  clear hW
  have HBb := Lib.hid (show B ≠ b ∧ g ≠ B ∧ nG ≤ B ∧ w.heap.size ≤ B by have h1 := HBW.out; have h2 := HGB.out; rw [hB]; exact ⟨by omega, by omega, h2.2, Nat.le_refl _⟩)
  replace hB := Lib.hid hB
  have hc := r_great HH0.out
  have HC := Lib.hid hc
  clear hc
  rcases hr : greatR (ts.drop i) with ⟨a1, l1⟩ | ⟨er, p⟩
  rotate_left
  · have HR := Lib.hid hr
    clear hr
    go_wp2_with (go_at_call 236; refine HC.out.mono ?_; rintro e W1 hp; obtain ⟨he, hk⟩ := hp.no HR.out; unfold faultE at he; subst he; have HK1 := Lib.hid (HK0.out.trans hk); clear hk hp HC)
    exact ⟨rfl, RPost.fault HK1.out (HQ.out.symm.trans (bind_no HR.out))⟩
  have HR := Lib.hid hr
  clear hr
  go_upto_region 2 with
    (first
      | (go_at_call 236; refine HC.out.mono ?_; rintro e W1 hp; obtain ⟨hk, j1, v1, rfl, hl, hj, hrd, hv⟩ := hp.ok HR.out; subst hl; unfold VStr at hv; subst hv; have HK1 := Lib.hid (HK0.out.trans hk); have HKK1 := Lib.hid hk; have HH1 := Lib.hid hrd; have HJ1 := Lib.hid (Nat.le_trans HJ0.out hj); have HX1 := Lib.hid (hk.kept HX0.out HBb.out.1); clear hk hp hrd hj HC)
      | (refine wpList_store_box rfl 103 (.tmp 3) (.tmp 6) rfl W1.heap.size 0 rfl (.agg #[.int .i64 10, .slice none 0 0, .string ⟨#[]⟩, .slice none 0 0, .string a1, .string ⟨#[]⟩]) rfl [.int .i64 10, .slice none 0 0, .string ⟨#[]⟩, .slice none 0 0, .string a1, .string ⟨#[]⟩] rfl [.int .i64 0, .slice none 0 0, .string ⟨#[]⟩, .slice none 0 0, .string ⟨#[]⟩, .string ⟨#[]⟩] 103 (heap_alloc_new W1 (.cells #[.int .i64 0, .slice none 0 0, .string ⟨#[]⟩, .slice none 0 0, .string ⟨#[]⟩, .string ⟨#[]⟩] 103)) (Nat.le_refl _) (show (Tryz.prog.info? 103).map (·.size) = some 6 by kernel_rfl) ?c1 W1.heap.size (Nat.le_refl _) (W1.alloc (.cells #[.int .i64 0, .slice none 0 0, .string ⟨#[]⟩, .slice none 0 0, .string ⟨#[]⟩, .string ⟨#[]⟩] 103)) (Below.refl _ _) ?_; rotate_left; intro W2 hb hbx hoth))
  case c1 => first | exact ⟨rfl, rfl, rfl, rfl, rfl, rfl⟩ | (intro v hv; simp at hv; rcases hv with rfl | rfl | rfl | rfl | rfl | rfl <;> rfl) | (intro v hv; simp at hv; rcases hv with rfl | rfl | rfl | rfl | rfl <;> rfl) | (intro v hv; simp at hv; rcases hv with rfl | rfl | rfl | rfl <;> rfl)
  have hQ := HQ.out
  unfold madeR at hQ
  rw [bind_ok HR.out] at hQ
  replace HQ := Lib.hid hQ
  clear hQ HR
  obtain ⟨O, hO⟩ : ∃ O, O = Obj.cells #[.int .i64 0, .slice none 0 0, .string ⟨#[]⟩, .slice none 0 0, .string ⟨#[]⟩, .string ⟨#[]⟩] 103 := ⟨_, rfl⟩
  rw [← hO] at hb hoth
  clear hO
  obtain ⟨P, hP⟩ : ∃ P, P = W1.heap.size := ⟨_, rfl⟩
  rw [← hP] at hb hbx hoth
  simp only [← hP]
  have hal := alloc_below W1 O
  rw [← hP] at hal
  have hBP : B < P := by rw [hP]; exact blk_lt HX1.out
  have hbP : b < P := by rw [hP]; exact blk_lt HH1.out.at_
  have hgP : g < P := by rw [hP]; exact HH1.out.toks.1
  have hwP : w.heap.size ≤ P := by rw [hP]; exact HK1.out.size
  have hnP : nG ≤ P := by have := HBb.out.2.2.1; omega
  have HB2 := Lib.hid (hal.trans hb)
  have HP_2 := Lib.hid (show W2.heap[P]? = some (.cells #[.int .i64 10, .slice none 0 0, .string ⟨#[]⟩, .slice none 0 0, .string a1, .string ⟨#[]⟩] 103) from hbx)
  have HX2 := Lib.hid ((HB2.out.block B hBP).trans HX1.out)
  have HH2 := Lib.hid (show RdAt W2 b g cap ts j1 dp by have h1 := HH1.out; exact h1.keep (Kb.of_below (hP ▸ HB2.out)) ((HB2.out.block b hbP).trans h1.at_) h1.lt)
  have HK2 := Lib.hid (show Kb b w W2 from HK1.out.trans (Kb.of_below (hP ▸ HB2.out)))
  have HJ2 := Lib.hid HJ1.out
  have HNP := Lib.hid (show P ≠ b ∧ w.heap.size ≤ P ∧ g ≠ P ∧ nG ≤ P ∧ B ≠ P from ⟨by omega, hwP, by omega, hnP, by omega⟩)
  clear hal hb hbx hoth hBP hbP hgP hwP hnP HB2
  replace hP := Lib.hid hP
  obtain ⟨t3, ht3, hh, -⟩ := HH2.out.tok
  have htk := takes_any HH2.out ht3 wTwo (by decide)
  have HTK := Lib.hid htk
  have HT3 := Lib.hid ht3
  clear htk hh ht3
  by_cases hts : t3.text = wTwo
  · have HS := Lib.hid hts
    clear hts
    obtain ⟨p0, p1, p2, p3, p4, p5, pf, pl⟩ := cells6p HP_2.out
    go_upto_region 5 with (go_at_call 172; refine HTK.out.mono ?_; rintro e W3 ⟨h1, -⟩; obtain ⟨rfl, hk, hrd⟩ := h1 HS.out; have HK3 := Lib.hid (HK2.out.trans hk); have HH3 := Lib.hid hrd; have HJ3 := Lib.hid (Nat.le_succ_of_le HJ2.out); have HX3 := Lib.hid (hk.kept HX2.out HBb.out.1); have HP_3 := Lib.hid (hk.kept HP_2.out HNP.out.1); clear h1 hk hrd HTK)
    have hQ := HQ.out
    rw [opt_yes HH2.out HT3.out HS.out] at hQ
    replace HQ := Lib.hid hQ
    clear hQ HS
    clear p0 p1 p2 p3 p4 p5 pf pl
    have hc := r_great HH3.out
    have HC := Lib.hid hc
    clear hc
    rcases hr : greatR (ts.drop (j1 + 1)) with ⟨a4, l4⟩ | ⟨er, p⟩
    rotate_left
    · have HR := Lib.hid hr
      clear hr
      obtain ⟨p0, p1, p2, p3, p4, p5, pf, pl⟩ := cells6p HP_3.out
      go_wp2_with (go_at_call 236; refine HC.out.mono ?_; rintro e W4 hp; obtain ⟨he, hk⟩ := hp.no HR.out; unfold faultE at he; subst he; have HK4 := Lib.hid (HK3.out.trans hk); clear hk hp HC)
      exact ⟨rfl, RPost.fault HK4.out (HQ.out.symm.trans (bind_no HR.out))⟩
    have HR := Lib.hid hr
    clear hr
    obtain ⟨p0, p1, p2, p3, p4, p5, pf, pl⟩ := cells6p HP_3.out
    go_upto_region 6 with (go_at_call 236; refine HC.out.mono ?_; rintro e W4 hp; obtain ⟨hk, j4, v4, rfl, hl, hj, hrd, hv⟩ := hp.ok HR.out; subst hl; unfold VStr at hv; subst hv; have HK4 := Lib.hid (HK3.out.trans hk); have HKK4 := Lib.hid hk; have HH4 := Lib.hid hrd; have HJ4 := Lib.hid (Nat.le_trans HJ3.out hj); have HX4 := Lib.hid (hk.kept HX3.out HBb.out.1); have HP_4 := Lib.hid (hk.kept HP_3.out HNP.out.1); clear hk hp hrd hj HC; obtain ⟨p0, p1, p2, p3, p4, p5, pf, pl⟩ := cells6p HP_4.out)
    clear p0 p1 p2 p3 p4 p5 pf pl
    have hQ := HQ.out
    rw [bind_ok HR.out] at hQ
    replace HQ := Lib.hid hQ
    clear hQ HR
    obtain ⟨W5, hW⟩ : ∃ W, W = ((W4.setCell ⟨P, 0, none⟩ (.int .i64 11)).setCell ⟨P, 5, none⟩ (.string a4)) := ⟨_, rfl⟩
    rw [← hW]
    have hs0 := set_box (j := 0) (v := .int .i64 11) HP_4.out
    have hs1 := set_box (j := 5) (v := .string a4) hs0.2.2
    have hoth : ∀ x, x ≠ P → W5.heap[x]? = W4.heap[x]? := fun x hx => by rw [hW]; exact ((hs1.2.1 x hx).trans (hs0.2.1 x hx))
    have hb : Below P W4 W5 := by rw [hW]; exact (hs0.1.trans hs1.1)
    have HP_5 := Lib.hid (show W5.heap[P]? = some (.cells #[.int .i64 11, .slice none 0 0, .string ⟨#[]⟩, .slice none 0 0, .string a1, .string a4] 103) by rw [hW]; simpa using hs1.2.2)
    have HX5 := Lib.hid ((hoth B HNP.out.2.2.2.2).trans HX4.out)
    have HK5 := Lib.hid (HK4.out.box HNP.out.2.1 hb hoth)
    have HH5 := Lib.hid (HH4.out.box hb hoth HNP.out.1.symm HNP.out.2.2.1 HNP.out.2.2.2.1)
    have HJ5 := Lib.hid HJ4.out
    clear hW hs0 hs1 hoth hb
    obtain ⟨t6, ht6, hh, -⟩ := HH5.out.tok
    have htk := takes_any HH5.out ht6 wLP (by decide)
    have HTK := Lib.hid htk
    have HT6 := Lib.hid ht6
    clear htk hh ht6
    by_cases hts : t6.text = wLP
    · have HS := Lib.hid hts
      clear hts
      obtain ⟨p0, p1, p2, p3, p4, p5, pf, pl⟩ := cells6p HP_5.out
      go_upto_region 7 with (go_at_call 172; refine HTK.out.mono ?_; rintro e W6 ⟨h1, -⟩; obtain ⟨rfl, hk, hrd⟩ := h1 HS.out; have HK6 := Lib.hid (HK5.out.trans hk); have HH6 := Lib.hid hrd; have HJ6 := Lib.hid (Nat.le_succ_of_le HJ5.out); have HX6 := Lib.hid (hk.kept HX5.out HBb.out.1); have HP_6 := Lib.hid (hk.kept HP_5.out HNP.out.1); clear h1 hk hrd HTK)
      have hQ := HQ.out
      rw [opt_yes HH5.out HT6.out HS.out] at hQ
      replace HQ := Lib.hid hQ
      clear hQ HS
      clear p0 p1 p2 p3 p4 p5 pf pl
      have hc := r_oper HH6.out
      have HC := Lib.hid hc
      clear hc
      rcases hr : operR (ts.drop (j4 + 1)) with ⟨a7, l7⟩ | ⟨er, p⟩
      rotate_left
      · have HR := Lib.hid hr
        clear hr
        obtain ⟨p0, p1, p2, p3, p4, p5, pf, pl⟩ := cells6p HP_6.out
        go_wp2_with (go_at_call 327; refine HC.out.mono ?_; rintro e W7 hp; obtain ⟨he, hk⟩ := hp.no HR.out; unfold faultE at he; subst he; have HK7 := Lib.hid (HK6.out.trans hk); clear hk hp HC)
        exact ⟨rfl, RPost.fault HK7.out (HQ.out.symm.trans (bind_no HR.out))⟩
      have HR := Lib.hid hr
      clear hr
      obtain ⟨p0, p1, p2, p3, p4, p5, pf, pl⟩ := cells6p HP_6.out
      go_upto_region 8 with (go_at_call 327; refine HC.out.mono ?_; rintro e W7 hp; obtain ⟨hk, j7, v7, rfl, hl, hj, hrd, hv⟩ := hp.ok HR.out; subst hl; obtain ⟨⟨xb, xi, ⟨xn, xh, xp⟩⟩, rfl, rfl, hp⟩ := hv; simp only [opV, opC, plC, List.cons_append, List.nil_append]; have HP := Lib.hid hp; clear hp; have HK7 := Lib.hid (HK6.out.trans hk); have HKK7 := Lib.hid hk; have HH7 := Lib.hid hrd; have HJ7 := Lib.hid (Nat.le_trans HJ6.out hj); have HX7 := Lib.hid (hk.kept HX6.out HBb.out.1); have HP_7 := Lib.hid (hk.kept HP_6.out HNP.out.1); clear hk hp hrd hj HC; obtain ⟨p0, p1, p2, p3, p4, p5, pf, pl⟩ := cells6p HP_7.out)
      clear p0 p1 p2 p3 p4 p5 pf pl
      have hQ := HQ.out
      rw [bind_ok HR.out] at hQ
      replace HQ := Lib.hid hQ
      clear hQ HR
      obtain ⟨X, hX⟩ : ∃ X, X = (W7.setCell ⟨P, 1, none⟩ (.slice (some ⟨W7.heap.size, 0, none⟩) 1 1)) := ⟨_, rfl⟩
      rw [← hX]
      have hs0 := set_box (j := 1) (v := .slice (some ⟨W7.heap.size, 0, none⟩) 1 1) HP_7.out
      rw [← hX] at hs0
      have hsz : X.heap.size = W7.heap.size := by rw [hX]; simp [World.setCell]
      have hal := alloc_below X (.cells #[.bool xb, .int .i64 xi, .string xn, .slice xh.oa xp.length xh.cap] 105)
      have HZ := Lib.hid (show (X.alloc (.cells #[.bool xb, .int .i64 xi, .string xn, .slice xh.oa xp.length xh.cap] 105)).heap[W7.heap.size]? = some (.cells #[.bool xb, .int .i64 xi, .string xn, .slice xh.oa xp.length xh.cap] 105) by rw [← hsz]; exact heap_alloc_new X (.cells #[.bool xb, .int .i64 xi, .string xn, .slice xh.oa xp.length xh.cap] 105))
      obtain ⟨W8, hW⟩ : ∃ W, W = X.alloc (.cells #[.bool xb, .int .i64 xi, .string xn, .slice xh.oa xp.length xh.cap] 105) := ⟨_, rfl⟩
      rw [← hW] at HZ hal ⊢
      have HP_8 := Lib.hid (show W8.heap[P]? = some (.cells #[.int .i64 11, .slice (some ⟨W7.heap.size, 0, none⟩) 1 1, .string ⟨#[]⟩, .slice none 0 0, .string a1, .string a4] 103) from ((hal.block P (blk_lt hs0.2.2)).trans hs0.2.2).trans (by simp))
      have hxb := (hs0.2.1 B HNP.out.2.2.2.2).trans HX7.out
      have HX8 := Lib.hid ((hal.block B (blk_lt hxb)).trans hxb)
      have hkk := HK7.out.box HNP.out.2.1 hs0.1 hs0.2.1
      have HK8 := Lib.hid (show Kb b w W8 by rw [hW]; exact hkk.alloc (.cells #[.bool xb, .int .i64 xi, .string xn, .slice xh.oa xp.length xh.cap] 105))
      have HH8 := Lib.hid ((HH7.out.box hs0.1 hs0.2.1 HNP.out.1.symm HNP.out.2.2.1 HNP.out.2.2.2.1).under hal)
      have HU1 := Lib.hid (OpH.und _ _ _ ((und_box (B' := W6.heap.size) hs0.1 hs0.2.1 (blk_lt HP_6.out) (Nat.le_refl _)).trans (eb_und (B := W6.heap.size) (B' := W6.heap.size) (og := none) (og' := none) hal.size fun x hx h1 h2 => ⟨h1, h2, hal.block x hx⟩)) HP.out)
      have HJ8 := Lib.hid HJ7.out
      clear hX hs0 hsz hal hW hxb hkk
      have hc := need_any HH8.out wRP (by decide)
      have HC := Lib.hid hc
      clear hc
      rcases hr : needR wRP (ts.drop j7) with ⟨a9, l9⟩ | ⟨er, p⟩
      rotate_left
      · have HR := Lib.hid hr
        clear hr
        obtain ⟨p0, p1, p2, p3, p4, p5, pf, pl⟩ := cells6p HP_8.out
        go_wp2_with (go_at_call 237; refine HC.out.mono ?_; rintro e W9 hp; obtain ⟨he, hk⟩ := hp.no HR.out; unfold faultE at he; subst he; have HK9 := Lib.hid (HK8.out.trans hk); clear hk hp HC)
        exact ⟨rfl, RPost.fault HK9.out (HQ.out.symm.trans (bind_no HR.out))⟩
      have HR := Lib.hid hr
      clear hr
      obtain ⟨p0, p1, p2, p3, p4, p5, pf, pl⟩ := cells6p HP_8.out
      go_upto_region 9 with (go_at_call 237; refine HC.out.mono ?_; rintro e W9 hp; obtain ⟨hk, j9, v9, rfl, hl, hj, hrd, hv⟩ := hp.ok HR.out; subst hl; unfold VUnit at hv; subst hv; have HK9 := Lib.hid (HK8.out.trans hk); have HKK9 := Lib.hid hk; have HH9 := Lib.hid hrd; have HJ9 := Lib.hid (Nat.le_trans HJ8.out hj); have HX9 := Lib.hid (hk.kept HX8.out HBb.out.1); have HP_9 := Lib.hid (hk.kept HP_8.out HNP.out.1); clear hk hp hrd hj HC)
      clear p0 p1 p2 p3 p4 p5 pf pl
      have hQ := HQ.out
      unfold mapR at hQ
      rw [bind_ok HR.out] at hQ
      replace HQ := Lib.hid hQ
      clear hQ HR
      have HU2 := Lib.hid (OpH.und _ _ _ (HKK9.out.und (Nat.lt_of_lt_of_le HBW.out HK6.out.size) (Nat.le_refl _)) HU1.out)
      have HZ2 := Lib.hid (HKK9.out.kept HZ.out (fun e => by have := HK7.out.size; have := HBW.out; omega))
      obtain ⟨p0, p1, p2, p3, p4, p5, pf, pl⟩ := cells6p HP_9.out
      go_wp2_with (refine wpList_store_box rfl 103 (.tmp 2) (.tmp 26) rfl B 0 rfl (.agg #[.int .i64 11, .slice (some ⟨W7.heap.size, 0, none⟩) 1 1, .string ⟨#[]⟩, .slice none 0 0, .string a1, .string a4]) rfl [.int .i64 11, .slice (some ⟨W7.heap.size, 0, none⟩) 1 1, .string ⟨#[]⟩, .slice none 0 0, .string a1, .string a4] rfl [.int .i64 0, .slice none 0 0, .string ⟨#[]⟩, .slice none 0 0, .string ⟨#[]⟩, .string ⟨#[]⟩] 103 HX9.out (Nat.le_refl _) (show (Tryz.prog.info? 103).map (·.size) = some 6 by kernel_rfl) ?c1 B (Nat.le_refl _) W9 (Below.refl _ _) ?_)
      case c1 => first | exact rfl | exact ⟨rfl, rfl⟩ | exact ⟨rfl, rfl, rfl⟩ | exact ⟨rfl, rfl, rfl, rfl⟩ | exact ⟨rfl, rfl, rfl, rfl, rfl⟩ | exact ⟨rfl, rfl, rfl, rfl, rfl, rfl⟩ | (intro v hv; simp at hv; first | (rcases hv with rfl | rfl | rfl | rfl | rfl | rfl <;> rfl) | (rcases hv with rfl | rfl | rfl | rfl | rfl <;> rfl) | (rcases hv with rfl | rfl | rfl | rfl <;> rfl) | (rcases hv with rfl | rfl | rfl <;> rfl) | (rcases hv with rfl | rfl <;> rfl) | (subst hv; rfl))
      intro WF hb hbx hoth
      have HF := Lib.hid (And.intro (HK9.out.box HBb.out.2.2.2 hb hoth) (HH9.out.box hb hoth HBb.out.1.symm HBb.out.2.1 HBb.out.2.2.1))
      have hzf := (hoth W7.heap.size (fun e => by have := blk_lt HX7.out; omega)).trans HZ2.out
      have hU := OpH.und _ _ _ (und_box (B' := w.heap.size) hb hoth (blk_lt HX6.out) HK6.out.size) HU2.out
      have HRL := Lib.hid (show Row (eb WF w.heap.size none) ⟨some ⟨W7.heap.size, 0, none⟩, 1⟩ 4 [(⟨xb, xi, ⟨xn, xh, xp⟩⟩ : Op5)] opC (OpH (eb WF w.heap.size none)) from row_lit (xs := [(⟨xb, xi, ⟨xn, xh, xp⟩⟩ : Op5)]) hzf opC_len HK7.out.size (show 1 ≤ maxLen by decide) (fun x hx => by
        obtain rfl : x = (⟨xb, xi, ⟨xn, xh, xp⟩⟩ : Op5) := by simpa using hx
        exact hU))
      clear hzf hU
      clear hb
      obtain ⟨q0, q1, q2, q3, q4, q5, qf, ql⟩ := cells6p (show WF.heap[B]? = some (.cells #[.int .i64 11, .slice (some ⟨W7.heap.size, 0, none⟩) 1 1, .string ⟨#[]⟩, .slice none 0 0, .string a1, .string a4] 103) from hbx)
      go_wp2
      exact bodyPost_ret (v := .agg #[.int .i64 11, .slice (some ⟨W7.heap.size, 0, none⟩) 1 1, .string ⟨#[]⟩, .slice none 0 0, .string a1, .string a4]) (by simp [results, Tryz.results342, go_sem, q0, q1, q2, q3, q4, q5]) rfl (RPost.done HF.out.1 HQ.out.symm HJ9.out HF.out.2 ⟨⟨11, ⟨some ⟨W7.heap.size, 0, none⟩, 1⟩, [⟨xb, xi, ⟨xn, xh, xp⟩⟩], ⟨nil5, h0, []⟩, a1, a4⟩, rfl, rfl, ⟨show I64 11 from ⟨by decide, by decide⟩, HRL.out, Row.nil _ _ _ _⟩⟩)
    · have HS := Lib.hid hts
      clear hts
      obtain ⟨p0, p1, p2, p3, p4, p5, pf, pl⟩ := cells6p HP_5.out
      go_upto_region 9 with (go_at_call 172; refine HTK.out.mono ?_; rintro e W6 ⟨-, h1⟩; obtain ⟨rfl, hb⟩ := h1 HS.out; have hk := Kb.of_below (b := b) hb; have HK6 := Lib.hid (HK5.out.trans hk); have HH6 := Lib.hid (HH5.out.under hb); have HJ6 := Lib.hid HJ5.out; have HX6 := Lib.hid (hk.kept HX5.out HBb.out.1); have HP_6 := Lib.hid (hk.kept HP_5.out HNP.out.1); clear h1 hk hb HTK)
      have hQ := HQ.out
      rw [opt_no HH5.out HT6.out HS.out] at hQ
      replace HQ := Lib.hid hQ
      clear hQ HS
      clear p0 p1 p2 p3 p4 p5 pf pl
      obtain ⟨p0, p1, p2, p3, p4, p5, pf, pl⟩ := cells6p HP_6.out
      go_wp2_with (refine wpList_store_box rfl 103 (.tmp 2) (.tmp 26) rfl B 0 rfl (.agg #[.int .i64 11, .slice none 0 0, .string ⟨#[]⟩, .slice none 0 0, .string a1, .string a4]) rfl [.int .i64 11, .slice none 0 0, .string ⟨#[]⟩, .slice none 0 0, .string a1, .string a4] rfl [.int .i64 0, .slice none 0 0, .string ⟨#[]⟩, .slice none 0 0, .string ⟨#[]⟩, .string ⟨#[]⟩] 103 HX6.out (Nat.le_refl _) (show (Tryz.prog.info? 103).map (·.size) = some 6 by kernel_rfl) ?c1 B (Nat.le_refl _) W6 (Below.refl _ _) ?_)
      case c1 => first | exact rfl | exact ⟨rfl, rfl⟩ | exact ⟨rfl, rfl, rfl⟩ | exact ⟨rfl, rfl, rfl, rfl⟩ | exact ⟨rfl, rfl, rfl, rfl, rfl⟩ | exact ⟨rfl, rfl, rfl, rfl, rfl, rfl⟩ | (intro v hv; simp at hv; first | (rcases hv with rfl | rfl | rfl | rfl | rfl | rfl <;> rfl) | (rcases hv with rfl | rfl | rfl | rfl | rfl <;> rfl) | (rcases hv with rfl | rfl | rfl | rfl <;> rfl) | (rcases hv with rfl | rfl | rfl <;> rfl) | (rcases hv with rfl | rfl <;> rfl) | (subst hv; rfl))
      intro WF hb hbx hoth
      have HF := Lib.hid (And.intro (HK6.out.box HBb.out.2.2.2 hb hoth) (HH6.out.box hb hoth HBb.out.1.symm HBb.out.2.1 HBb.out.2.2.1))
      clear hb
      obtain ⟨q0, q1, q2, q3, q4, q5, qf, ql⟩ := cells6p (show WF.heap[B]? = some (.cells #[.int .i64 11, .slice none 0 0, .string ⟨#[]⟩, .slice none 0 0, .string a1, .string a4] 103) from hbx)
      go_wp2
      exact bodyPost_ret (v := .agg #[.int .i64 11, .slice none 0 0, .string ⟨#[]⟩, .slice none 0 0, .string a1, .string a4]) (by simp [results, Tryz.results342, go_sem, q0, q1, q2, q3, q4, q5]) rfl (RPost.done HF.out.1 HQ.out.symm HJ6.out HF.out.2 ⟨⟨11, h0, [], ⟨nil5, h0, []⟩, a1, a4⟩, rfl, rfl, ⟨show I64 11 from ⟨by decide, by decide⟩, Row.nil _ _ _ _, Row.nil _ _ _ _⟩⟩)
  · have HS := Lib.hid hts
    clear hts
    obtain ⟨p0, p1, p2, p3, p4, p5, pf, pl⟩ := cells6p HP_2.out
    go_upto_region 3 with (go_at_call 172; refine HTK.out.mono ?_; rintro e W3 ⟨-, h1⟩; obtain ⟨rfl, hb⟩ := h1 HS.out; have hk := Kb.of_below (b := b) hb; have HK3 := Lib.hid (HK2.out.trans hk); have HH3 := Lib.hid (HH2.out.under hb); have HJ3 := Lib.hid HJ2.out; have HX3 := Lib.hid (hk.kept HX2.out HBb.out.1); have HP_3 := Lib.hid (hk.kept HP_2.out HNP.out.1); clear h1 hk hb HTK)
    have hQ := HQ.out
    rw [opt_no HH2.out HT3.out HS.out] at hQ
    replace HQ := Lib.hid hQ
    clear hQ HS
    clear p0 p1 p2 p3 p4 p5 pf pl
    have hc := r_args HH3.out
    have HC := Lib.hid hc
    clear hc
    rcases hr : argsR (ts.drop j1) with ⟨a4, l4⟩ | ⟨er, p⟩
    rotate_left
    · have HR := Lib.hid hr
      clear hr
      obtain ⟨p0, p1, p2, p3, p4, p5, pf, pl⟩ := cells6p HP_3.out
      go_wp2_with (go_at_call 341; refine HC.out.mono ?_; rintro e W4 hp; obtain ⟨he, hk⟩ := hp.no HR.out; unfold faultE at he; subst he; have HK4 := Lib.hid (HK3.out.trans hk); clear hk hp HC)
      exact ⟨rfl, RPost.fault HK4.out (HQ.out.symm.trans (bind_no HR.out))⟩
    have HR := Lib.hid hr
    clear hr
    obtain ⟨p0, p1, p2, p3, p4, p5, pf, pl⟩ := cells6p HP_3.out
    go_upto_region 4 with (go_at_call 341; refine HC.out.mono ?_; rintro e W4 hp; obtain ⟨hk, j4, v4, rfl, hl, hj, hrd, hv⟩ := hp.ok HR.out; subst hl; obtain ⟨ah, al, rfl, hae, hp2⟩ := hv; have HP := Lib.hid (And.intro hae hp2); clear hae hp2; have HK4 := Lib.hid (HK3.out.trans hk); have HKK4 := Lib.hid hk; have HH4 := Lib.hid hrd; have HJ4 := Lib.hid (Nat.le_trans HJ3.out hj); have HX4 := Lib.hid (hk.kept HX3.out HBb.out.1); have HP_4 := Lib.hid (hk.kept HP_3.out HNP.out.1); clear hk hp hrd hj HC; obtain ⟨p0, p1, p2, p3, p4, p5, pf, pl⟩ := cells6p HP_4.out)
    clear p0 p1 p2 p3 p4 p5 pf pl
    obtain ⟨W5, hW⟩ : ∃ W, W = (W4.setCell ⟨P, 1, none⟩ (.slice ah.oa al.length ah.cap)) := ⟨_, rfl⟩
    rw [← hW]
    have hs0 := set_box (j := 1) (v := .slice ah.oa al.length ah.cap) HP_4.out
    have hoth : ∀ x, x ≠ P → W5.heap[x]? = W4.heap[x]? := fun x hx => by rw [hW]; exact (hs0.2.1 x hx)
    have hb : Below P W4 W5 := by rw [hW]; exact hs0.1
    have HP_5 := Lib.hid (show W5.heap[P]? = some (.cells #[.int .i64 10, .slice ah.oa al.length ah.cap, .string ⟨#[]⟩, .slice none 0 0, .string a1, .string ⟨#[]⟩] 103) by rw [hW]; simpa using hs0.2.2)
    have HX5 := Lib.hid ((hoth B HNP.out.2.2.2.2).trans HX4.out)
    have HK5 := Lib.hid (HK4.out.box HNP.out.2.1 hb hoth)
    have HH5 := Lib.hid (HH4.out.box hb hoth HNP.out.1.symm HNP.out.2.2.1 HNP.out.2.2.2.1)
    have HJ5 := Lib.hid HJ4.out
    have HU0 := Lib.hid (und_box (B' := W3.heap.size) hb hoth (blk_lt HP_3.out) (Nat.le_refl _))
    have HU1 := Lib.hid (Row.und HP.out.2 HU0.out fun _ _ hx => OpH.und _ _ _ HU0.out hx)
    clear hW hs0 hoth hb
    obtain ⟨p0, p1, p2, p3, p4, p5, pf, pl⟩ := cells6p HP_5.out
    go_wp2_with (refine wpList_store_box rfl 103 (.tmp 2) (.tmp 13) rfl B 0 rfl (.agg #[.int .i64 10, .slice ah.oa al.length ah.cap, .string ⟨#[]⟩, .slice none 0 0, .string a1, .string ⟨#[]⟩]) rfl [.int .i64 10, .slice ah.oa al.length ah.cap, .string ⟨#[]⟩, .slice none 0 0, .string a1, .string ⟨#[]⟩] rfl [.int .i64 0, .slice none 0 0, .string ⟨#[]⟩, .slice none 0 0, .string ⟨#[]⟩, .string ⟨#[]⟩] 103 HX5.out (Nat.le_refl _) (show (Tryz.prog.info? 103).map (·.size) = some 6 by kernel_rfl) ?c1 B (Nat.le_refl _) W5 (Below.refl _ _) ?_)
    case c1 => first | exact rfl | exact ⟨rfl, rfl⟩ | exact ⟨rfl, rfl, rfl⟩ | exact ⟨rfl, rfl, rfl, rfl⟩ | exact ⟨rfl, rfl, rfl, rfl, rfl⟩ | exact ⟨rfl, rfl, rfl, rfl, rfl, rfl⟩ | (intro v hv; simp at hv; first | (rcases hv with rfl | rfl | rfl | rfl | rfl | rfl <;> rfl) | (rcases hv with rfl | rfl | rfl | rfl | rfl <;> rfl) | (rcases hv with rfl | rfl | rfl | rfl <;> rfl) | (rcases hv with rfl | rfl | rfl <;> rfl) | (rcases hv with rfl | rfl <;> rfl) | (subst hv; rfl))
    intro WF hb hbx hoth
    have HF := Lib.hid (And.intro (HK5.out.box HBb.out.2.2.2 hb hoth) (HH5.out.box hb hoth HBb.out.1.symm HBb.out.2.1 HBb.out.2.2.1))
    have hU0 := und_box (B' := w.heap.size) hb hoth (blk_lt HX3.out) HK3.out.size
    have HU := Lib.hid (Row.und HU1.out hU0 fun _ _ hx => OpH.und _ _ _ hU0 hx)
    clear hU0
    clear hb
    obtain ⟨q0, q1, q2, q3, q4, q5, qf, ql⟩ := cells6p (show WF.heap[B]? = some (.cells #[.int .i64 10, .slice ah.oa al.length ah.cap, .string ⟨#[]⟩, .slice none 0 0, .string a1, .string ⟨#[]⟩] 103) from hbx)
    go_wp2
    exact bodyPost_ret (v := .agg #[.int .i64 10, .slice ah.oa al.length ah.cap, .string ⟨#[]⟩, .slice none 0 0, .string a1, .string ⟨#[]⟩]) (by simp [results, Tryz.results342, go_sem, q0, q1, q2, q3, q4, q5]) rfl (RPost.done HF.out.1 (HQ.out.symm.trans (map_ok HR.out)) HJ5.out HF.out.2 ⟨⟨10, ah, al, ⟨nil5, h0, []⟩, a1, nil5⟩, rfl, by unfold erRv; rw [HP.out.1]; rfl, ⟨show I64 10 from ⟨by decide, by decide⟩, HU.out, Row.nil _ _ _ _⟩⟩)
end Go.Proofs.YtggdpgaedmegbaaGreatDoor
