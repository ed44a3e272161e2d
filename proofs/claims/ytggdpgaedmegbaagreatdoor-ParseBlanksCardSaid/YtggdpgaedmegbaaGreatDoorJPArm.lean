/-
  Arms. Conditions: the reader lies in the heap; what a block's reading comes to.
-/
import Derived.Test.YtggdpgaedmegbaaGreatDoorJPMade
import Derived.Test.YtggdpgaedmegbaaGreatDoorJPEnum
namespace Go.Proofs.YtggdpgaedmegbaaGreatDoor
open Go.RowKit

set_option maxRecDepth 100000 in
set_option maxHeartbeats 4000000 in
theorem r_arm {w : World} {b g cap : Nat} {ts : List Tok} {i dp : Nat} (H : RdAt w b g cap ts i dp) {n : Nat} (blk : Rd (List St5)) (hBk : ∀ (w : World) (i : Nat), RdAt w b g cap ts i dp → Calls Tryz.prog 243 #[.pointer (some ⟨b, 0, none⟩)] w (RPost w b g cap ts i dp (blk (ts.drop i)) (VRow 21 stC erSt (StH n)))) :
    Calls Tryz.prog 330 #[.pointer (some ⟨b, 0, none⟩)] w (RPost w b g cap ts i dp (armR blk (ts.drop i)) (VAr (n + 1))) := by
  obtain ⟨r, hQ⟩ : ∃ r, armR blk (ts.drop i) = r := ⟨_, rfl⟩
  rw [hQ]
  have HQ := Lib.hid hQ
  clear hQ
  have HGB := Lib.hid (And.intro H.toks.1 H.vars.size)
  have HBW := Lib.hid (show b < w.heap.size from (Array.getElem?_eq_some_iff.1 H.at_).1)
  have HJ0 := Lib.hid (Nat.le_refl i)
  obtain ⟨W0, hW⟩ : ∃ W0, W0 = w.alloc (.cells #[.string ⟨#[]⟩, .string ⟨#[]⟩, .slice none 0 0] 188) := ⟨_, rfl⟩
  have hbW : Below w.heap.size w W0 := by rw [hW]; exact alloc_below _ _
  have hx0 : W0.heap[w.heap.size]? = some (.cells #[.string ⟨#[]⟩, .string ⟨#[]⟩, .slice none 0 0] 188) := by rw [hW, heap_alloc_new]
  have HH0 := Lib.hid (H.under hbW)
  have HK0 := Lib.hid (Kb.of_below (b := b) hbW)
  obtain ⟨B, hB⟩ : ∃ B, B = w.heap.size := ⟨_, rfl⟩
  rw [← hB] at hx0
  have HX0 := Lib.hid hx0
  clear hbW hx0 H
  go_enter Tryz.func330, Tryz.ntmps330
  go_upto_region 1 with fail
  rw [← hW]
  simp only [← hB]
  clear hW
  have HBb := Lib.hid (show B ≠ b ∧ g ≠ B ∧ nG ≤ B ∧ w.heap.size ≤ B by have h1 := HBW.out; have h2 := HGB.out; rw [hB]; exact ⟨by omega, by omega, h2.2, Nat.le_refl _⟩)
  replace hB := Lib.hid hB
  have HBk := Lib.hid hBk
  clear hBk
  have hc := r_great HH0.out
  have HC := Lib.hid hc
  clear hc
  rcases hr : greatR (ts.drop i) with ⟨a1, l1⟩ | ⟨er, p⟩
  rotate_left
  · have HR := Lib.hid hr
    clear hr
    go_wp2_with (go_at_call 236; refine HC.out.mono ?_; rintro e W1 hp; obtain ⟨he, hk⟩ := hp.no HR.out; unfold faultE at he; subst he; have HK1 := Lib.hid (HK0.out.trans hk); clear hk hp HC)
    exact ⟨rfl, RPost.fault HK1.out (HQ.out.symm.trans (bind_no HR.out))⟩
  have HR := Lib.hid hr
  clear hr
  go_upto_region 2 with
    (first
      | (go_at_call 236; refine HC.out.mono ?_; rintro e W1 hp; obtain ⟨hk, j1, v1, rfl, hl, hj, hrd, hv⟩ := hp.ok HR.out; subst hl; unfold VStr at hv; subst hv; have HK1 := Lib.hid (HK0.out.trans hk); have HKK1 := Lib.hid hk; have HH1 := Lib.hid hrd; have HJ1 := Lib.hid (Nat.le_trans HJ0.out hj); have HX1 := Lib.hid (hk.kept HX0.out HBb.out.1); clear hk hp hrd hj HC)
      | (refine wpList_store_box rfl 188 (.tmp 3) (.tmp 6) rfl W1.heap.size 0 rfl (.agg #[.string a1, .string ⟨#[]⟩, .slice none 0 0]) rfl [.string a1, .string ⟨#[]⟩, .slice none 0 0] rfl [.string ⟨#[]⟩, .string ⟨#[]⟩, .slice none 0 0] 188 (heap_alloc_new W1 (.cells #[.string ⟨#[]⟩, .string ⟨#[]⟩, .slice none 0 0] 188)) (Nat.le_refl _) (show (Tryz.prog.info? 188).map (·.size) = some 3 by kernel_rfl) ?c1 W1.heap.size (Nat.le_refl _) (W1.alloc (.cells #[.string ⟨#[]⟩, .string ⟨#[]⟩, .slice none 0 0] 188)) (Below.refl _ _) ?_; rotate_left; intro W2 hb hbx hoth))
  case c1 => first | exact ⟨rfl, rfl, rfl⟩ | (intro v hv; simp at hv; rcases hv with rfl | rfl | rfl <;> rfl) | (intro v hv; simp at hv; rcases hv with rfl | rfl <;> rfl)
  have hQ := HQ.out
  unfold armR at hQ
  rw [bind_ok HR.out] at hQ
  rw [bind_opt, bind_bind, bind_pure] at hQ
  replace HQ := Lib.hid hQ
  clear hQ HR
  obtain ⟨O, hO⟩ : ∃ O, O = Obj.cells #[.string ⟨#[]⟩, .string ⟨#[]⟩, .slice none 0 0] 188 := ⟨_, rfl⟩
  rw [← hO] at hb hoth
  clear hO
  obtain ⟨P, hP⟩ : ∃ P, P = W1.heap.size := ⟨_, rfl⟩
  rw [← hP] at hb hbx hoth
  simp only [← hP]
  have hal := alloc_below W1 O
  rw [← hP] at hal
  have hBP : B < P := by rw [hP]; exact blk_lt HX1.out
  have hbP : b < P := by rw [hP]; exact blk_lt HH1.out.at_
  have hgP : g < P := by rw [hP]; exact HH1.out.toks.1
  have hwP : w.heap.size ≤ P := by rw [hP]; exact HK1.out.size
  have hnP : nG ≤ P := by have := HBb.out.2.2.1; omega
  have HB2 := Lib.hid (hal.trans hb)
  have HP_2 := Lib.hid (show W2.heap[P]? = some (.cells #[.string a1, .string ⟨#[]⟩, .slice none 0 0] 188) from hbx)
  have HX2 := Lib.hid ((HB2.out.block B hBP).trans HX1.out)
  have HH2 := Lib.hid (show RdAt W2 b g cap ts j1 dp by have h1 := HH1.out; exact h1.keep (Kb.of_below (hP ▸ HB2.out)) ((HB2.out.block b hbP).trans h1.at_) h1.lt)
  have HK2 := Lib.hid (show Kb b w W2 from HK1.out.trans (Kb.of_below (hP ▸ HB2.out)))
  have HJ2 := Lib.hid HJ1.out
  have HNP := Lib.hid (show P ≠ b ∧ w.heap.size ≤ P ∧ g ≠ P ∧ nG ≤ P ∧ B ≠ P from ⟨by omega, hwP, by omega, hnP, by omega⟩)
  clear hal hb hbx hoth hBP hbP hgP hwP hnP HB2
  replace hP := Lib.hid hP
  obtain ⟨t3, ht3, hh, -⟩ := HH2.out.tok
  have htk := takes_any HH2.out ht3 wLP (by decide)
  have HTK := Lib.hid htk
  have HT3 := Lib.hid ht3
  clear htk hh ht3
  by_cases hts : t3.text = wLP
  · have HS := Lib.hid hts
    clear hts
    obtain ⟨p0, p1, p2, pf, pl⟩ := cells3p HP_2.out
    go_upto_region 3 with (go_at_call 172; refine HTK.out.mono ?_; rintro e W3 ⟨h1, -⟩; obtain ⟨rfl, hk, hrd⟩ := h1 HS.out; have HK3 := Lib.hid (HK2.out.trans hk); have HH3 := Lib.hid hrd; have HJ3 := Lib.hid (Nat.le_succ_of_le HJ2.out); have HX3 := Lib.hid (hk.kept HX2.out HBb.out.1); have HP_3 := Lib.hid (hk.kept HP_2.out HNP.out.1); clear h1 hk hrd HTK)
    have hQ := HQ.out
    rw [opt_yes HH2.out HT3.out HS.out] at hQ
    replace HQ := Lib.hid hQ
    clear hQ HS
    clear p0 p1 p2 pf pl
    have hc := r_small HH3.out
    have HC := Lib.hid hc
    clear hc
    rcases hr : smallR (ts.drop (j1 + 1)) with ⟨a4, l4⟩ | ⟨er, p⟩
    rotate_left
    · have HR := Lib.hid hr
      clear hr
      obtain ⟨p0, p1, p2, pf, pl⟩ := cells3p HP_3.out
      go_wp2_with (go_at_call 240; refine HC.out.mono ?_; rintro e W4 hp; obtain ⟨he, hk⟩ := hp.no HR.out; unfold faultE at he; subst he; have HK4 := Lib.hid (HK3.out.trans hk); clear hk hp HC)
      exact ⟨rfl, RPost.fault HK4.out (HQ.out.symm.trans (bind_no HR.out))⟩
    have HR := Lib.hid hr
    clear hr
    obtain ⟨p0, p1, p2, pf, pl⟩ := cells3p HP_3.out
    go_upto_region 4 with (go_at_call 240; refine HC.out.mono ?_; rintro e W4 hp; obtain ⟨hk, j4, v4, rfl, hl, hj, hrd, hv⟩ := hp.ok HR.out; subst hl; unfold VStr at hv; subst hv; have HK4 := Lib.hid (HK3.out.trans hk); have HKK4 := Lib.hid hk; have HH4 := Lib.hid hrd; have HJ4 := Lib.hid (Nat.le_trans HJ3.out hj); have HX4 := Lib.hid (hk.kept HX3.out HBb.out.1); have HP_4 := Lib.hid (hk.kept HP_3.out HNP.out.1); clear hk hp hrd hj HC; obtain ⟨p0, p1, p2, pf, pl⟩ := cells3p HP_4.out)
    clear p0 p1 p2 pf pl
    have hQ := HQ.out
    rw [bind_ok HR.out, bind_map] at hQ
    replace HQ := Lib.hid hQ
    clear hQ HR
    obtain ⟨W5, hW⟩ : ∃ W, W = (W4.setCell ⟨P, 1, none⟩ (.string a4)) := ⟨_, rfl⟩
    rw [← hW]
    have hs0 := set_box (j := 1) (v := .string a4) HP_4.out
    have hoth : ∀ x, x ≠ P → W5.heap[x]? = W4.heap[x]? := fun x hx => by rw [hW]; exact (hs0.2.1 x hx)
    have hb : Below P W4 W5 := by rw [hW]; exact hs0.1
    have HP_5 := Lib.hid (show W5.heap[P]? = some (.cells #[.string a1, .string a4, .slice none 0 0] 188) by rw [hW]; simpa using hs0.2.2)
    have HX5 := Lib.hid ((hoth B HNP.out.2.2.2.2).trans HX4.out)
    have HK5 := Lib.hid (HK4.out.box HNP.out.2.1 hb hoth)
    have HH5 := Lib.hid (HH4.out.box hb hoth HNP.out.1.symm HNP.out.2.2.1 HNP.out.2.2.2.1)
    have HJ5 := Lib.hid HJ4.out
    clear hW hs0 hoth hb
    have hc := need_any HH5.out wRP (by decide)
    have HC := Lib.hid hc
    clear hc
    rcases hr : needR wRP (ts.drop j4) with ⟨a6, l6⟩ | ⟨er, p⟩
    rotate_left
    · have HR := Lib.hid hr
      clear hr
      obtain ⟨p0, p1, p2, pf, pl⟩ := cells3p HP_5.out
      go_wp2_with (go_at_call 237; refine HC.out.mono ?_; rintro e W6 hp; obtain ⟨he, hk⟩ := hp.no HR.out; unfold faultE at he; subst he; have HK6 := Lib.hid (HK5.out.trans hk); clear hk hp HC)
      exact ⟨rfl, RPost.fault HK6.out (HQ.out.symm.trans (bind_no HR.out))⟩
    have HR := Lib.hid hr
    clear hr
    obtain ⟨p0, p1, p2, pf, pl⟩ := cells3p HP_5.out
    go_upto_region 5 with (go_at_call 237; refine HC.out.mono ?_; rintro e W6 hp; obtain ⟨hk, j6, v6, rfl, hl, hj, hrd, hv⟩ := hp.ok HR.out; subst hl; unfold VUnit at hv; subst hv; have HK6 := Lib.hid (HK5.out.trans hk); have HKK6 := Lib.hid hk; have HH6 := Lib.hid hrd; have HJ6 := Lib.hid (Nat.le_trans HJ5.out hj); have HX6 := Lib.hid (hk.kept HX5.out HBb.out.1); have HP_6 := Lib.hid (hk.kept HP_5.out HNP.out.1); clear hk hp hrd hj HC)
    clear p0 p1 p2 pf pl
    have hQ := HQ.out
    rw [bind_ok HR.out] at hQ
    replace HQ := Lib.hid hQ
    clear hQ HR
    have hc := need_any HH6.out wArrow (by decide)
    have HC := Lib.hid hc
    clear hc
    rcases hr : needR wArrow (ts.drop j6) with ⟨a7, l7⟩ | ⟨er, p⟩
    rotate_left
    · have HR := Lib.hid hr
      clear hr
      obtain ⟨p0, p1, p2, pf, pl⟩ := cells3p HP_6.out
      go_wp2_with (go_at_call 237; refine HC.out.mono ?_; rintro e W7 hp; obtain ⟨he, hk⟩ := hp.no HR.out; unfold faultE at he; subst he; have HK7 := Lib.hid (HK6.out.trans hk); clear hk hp HC)
      exact ⟨rfl, RPost.fault HK7.out (HQ.out.symm.trans (bind_no HR.out))⟩
    have HR := Lib.hid hr
    clear hr
    obtain ⟨p0, p1, p2, pf, pl⟩ := cells3p HP_6.out
    go_upto_region 6 with (go_at_call 237; refine HC.out.mono ?_; rintro e W7 hp; obtain ⟨hk, j7, v7, rfl, hl, hj, hrd, hv⟩ := hp.ok HR.out; subst hl; unfold VUnit at hv; subst hv; have HK7 := Lib.hid (HK6.out.trans hk); have HKK7 := Lib.hid hk; have HH7 := Lib.hid hrd; have HJ7 := Lib.hid (Nat.le_trans HJ6.out hj); have HX7 := Lib.hid (hk.kept HX6.out HBb.out.1); have HP_7 := Lib.hid (hk.kept HP_6.out HNP.out.1); clear hk hp hrd hj HC)
    clear p0 p1 p2 pf pl
    have hQ := HQ.out
    rw [bind_ok HR.out] at hQ
    replace HQ := Lib.hid hQ
    clear hQ HR
    have hc := HBk.out _ _ HH7.out
    have HC := Lib.hid hc
    clear hc
    rcases hr : blk (ts.drop j7) with ⟨a8, l8⟩ | ⟨er, p⟩
    rotate_left
    · have HR := Lib.hid hr
      clear hr
      obtain ⟨p0, p1, p2, pf, pl⟩ := cells3p HP_7.out
      go_wp2_with (go_at_call 243; refine HC.out.mono ?_; rintro e W8 hp; obtain ⟨he, hk⟩ := hp.no HR.out; unfold faultE at he; subst he; have HK8 := Lib.hid (HK7.out.trans hk); clear hk hp HC)
      exact ⟨rfl, RPost.fault HK8.out (HQ.out.symm.trans (bind_no HR.out))⟩
    have HR := Lib.hid hr
    clear hr
    obtain ⟨p0, p1, p2, pf, pl⟩ := cells3p HP_7.out
    go_upto_region 7 with (go_at_call 243; refine HC.out.mono ?_; rintro e W8 hp; obtain ⟨hk, j8, v8, rfl, hl, hj, hrd, hv⟩ := hp.ok HR.out; subst hl; obtain ⟨ah, al, rfl, hae, hp2⟩ := hv; have HP := Lib.hid (And.intro hae hp2); clear hae hp2; have HK8 := Lib.hid (HK7.out.trans hk); have HKK8 := Lib.hid hk; have HH8 := Lib.hid hrd; have HJ8 := Lib.hid (Nat.le_trans HJ7.out hj); have HX8 := Lib.hid (hk.kept HX7.out HBb.out.1); have HP_8 := Lib.hid (hk.kept HP_7.out HNP.out.1); clear hk hp hrd hj HC; obtain ⟨p0, p1, p2, pf, pl⟩ := cells3p HP_8.out)
    clear p0 p1 p2 pf pl
    obtain ⟨W9, hW⟩ : ∃ W, W = (W8.setCell ⟨P, 2, none⟩ (.slice ah.oa al.length ah.cap)) := ⟨_, rfl⟩
    rw [← hW]
    have hs0 := set_box (j := 2) (v := .slice ah.oa al.length ah.cap) HP_8.out
    have hoth : ∀ x, x ≠ P → W9.heap[x]? = W8.heap[x]? := fun x hx => by rw [hW]; exact (hs0.2.1 x hx)
    have hb : Below P W8 W9 := by rw [hW]; exact hs0.1
    have HP_9 := Lib.hid (show W9.heap[P]? = some (.cells #[.string a1, .string a4, .slice ah.oa al.length ah.cap] 188) by rw [hW]; simpa using hs0.2.2)
    have HX9 := Lib.hid ((hoth B HNP.out.2.2.2.2).trans HX8.out)
    have HK9 := Lib.hid (HK8.out.box HNP.out.2.1 hb hoth)
    have HH9 := Lib.hid (HH8.out.box hb hoth HNP.out.1.symm HNP.out.2.2.1 HNP.out.2.2.2.1)
    have HJ9 := Lib.hid HJ8.out
    have HU0 := Lib.hid (und_box (B' := W7.heap.size) hb hoth (blk_lt HP_7.out) (Nat.le_refl _))
    have HU1 := Lib.hid (Row.und HP.out.2 HU0.out fun _ _ hx => StH.und _ _ _ _ HU0.out hx)
    clear hW hs0 hoth hb
    obtain ⟨p0, p1, p2, pf, pl⟩ := cells3p HP_9.out
    go_wp2_with (refine wpList_store_box rfl 188 (.tmp 2) (.tmp 19) rfl B 0 rfl (.agg #[.string a1, .string a4, .slice ah.oa al.length ah.cap]) rfl [.string a1, .string a4, .slice ah.oa al.length ah.cap] rfl [.string ⟨#[]⟩, .string ⟨#[]⟩, .slice none 0 0] 188 HX9.out (Nat.le_refl _) (show (Tryz.prog.info? 188).map (·.size) = some 3 by kernel_rfl) ?c1 B (Nat.le_refl _) W9 (Below.refl _ _) ?_)
    case c1 => first | exact rfl | exact ⟨rfl, rfl⟩ | exact ⟨rfl, rfl, rfl⟩ | exact ⟨rfl, rfl, rfl, rfl⟩ | exact ⟨rfl, rfl, rfl, rfl, rfl⟩ | exact ⟨rfl, rfl, rfl, rfl, rfl, rfl⟩ | (intro v hv; simp at hv; first | (rcases hv with rfl | rfl | rfl | rfl | rfl | rfl <;> rfl) | (rcases hv with rfl | rfl | rfl | rfl | rfl <;> rfl) | (rcases hv with rfl | rfl | rfl | rfl <;> rfl) | (rcases hv with rfl | rfl | rfl <;> rfl) | (rcases hv with rfl | rfl <;> rfl) | (subst hv; rfl))
    intro WF hb hbx hoth
    have HF := Lib.hid (And.intro (HK9.out.box HBb.out.2.2.2 hb hoth) (HH9.out.box hb hoth HBb.out.1.symm HBb.out.2.1 HBb.out.2.2.1))
    have hU0 := und_box (B' := w.heap.size) hb hoth (blk_lt HX7.out) HK7.out.size
    have HU := Lib.hid (Row.und HU1.out hU0 fun _ _ hx => StH.und _ _ _ _ hU0 hx)
    clear hU0
    clear hb
    obtain ⟨q0, q1, q2, qf, ql⟩ := cells3p (show WF.heap[B]? = some (.cells #[.string a1, .string a4, .slice ah.oa al.length ah.cap] 188) from hbx)
    go_wp2
    exact bodyPost_ret (v := .agg #[.string a1, .string a4, .slice ah.oa al.length ah.cap]) (by simp [results, Tryz.results330, go_sem, q0, q1, q2]) rfl (RPost.done HF.out.1 (HQ.out.symm.trans (map_ok HR.out)) HJ9.out HF.out.2 ⟨.mk a1 a4 ah al, rfl, by rw [erAr, erSts_eq, HP.out.1], HU.out⟩)
  · have HS := Lib.hid hts
    clear hts
    obtain ⟨p0, p1, p2, pf, pl⟩ := cells3p HP_2.out
    go_upto_region 5 with (go_at_call 172; refine HTK.out.mono ?_; rintro e W3 ⟨-, h1⟩; obtain ⟨rfl, hb⟩ := h1 HS.out; have hk := Kb.of_below (b := b) hb; have HK3 := Lib.hid (HK2.out.trans hk); have HH3 := Lib.hid (HH2.out.under hb); have HJ3 := Lib.hid HJ2.out; have HX3 := Lib.hid (hk.kept HX2.out HBb.out.1); have HP_3 := Lib.hid (hk.kept HP_2.out HNP.out.1); clear h1 hk hb HTK)
    have hQ := HQ.out
    rw [opt_no HH2.out HT3.out HS.out] at hQ
    replace HQ := Lib.hid hQ
    clear hQ HS
    clear p0 p1 p2 pf pl
    have hc := need_any HH3.out wArrow (by decide)
    have HC := Lib.hid hc
    clear hc
    rcases hr : needR wArrow (ts.drop j1) with ⟨a4, l4⟩ | ⟨er, p⟩
    rotate_left
    · have HR := Lib.hid hr
      clear hr
      obtain ⟨p0, p1, p2, pf, pl⟩ := cells3p HP_3.out
      go_wp2_with (go_at_call 237; refine HC.out.mono ?_; rintro e W4 hp; obtain ⟨he, hk⟩ := hp.no HR.out; unfold faultE at he; subst he; have HK4 := Lib.hid (HK3.out.trans hk); clear hk hp HC)
      exact ⟨rfl, RPost.fault HK4.out (HQ.out.symm.trans (bind_no HR.out))⟩
    have HR := Lib.hid hr
    clear hr
    obtain ⟨p0, p1, p2, pf, pl⟩ := cells3p HP_3.out
    go_upto_region 6 with (go_at_call 237; refine HC.out.mono ?_; rintro e W4 hp; obtain ⟨hk, j4, v4, rfl, hl, hj, hrd, hv⟩ := hp.ok HR.out; subst hl; unfold VUnit at hv; subst hv; have HK4 := Lib.hid (HK3.out.trans hk); have HKK4 := Lib.hid hk; have HH4 := Lib.hid hrd; have HJ4 := Lib.hid (Nat.le_trans HJ3.out hj); have HX4 := Lib.hid (hk.kept HX3.out HBb.out.1); have HP_4 := Lib.hid (hk.kept HP_3.out HNP.out.1); clear hk hp hrd hj HC)
    clear p0 p1 p2 pf pl
    have hQ := HQ.out
    rw [bind_ok HR.out] at hQ
    replace HQ := Lib.hid hQ
    clear hQ HR
    have hc := HBk.out _ _ HH4.out
    have HC := Lib.hid hc
    clear hc
    rcases hr : blk (ts.drop j4) with ⟨a5, l5⟩ | ⟨er, p⟩
    rotate_left
    · have HR := Lib.hid hr
      clear hr
      obtain ⟨p0, p1, p2, pf, pl⟩ := cells3p HP_4.out
      go_wp2_with (go_at_call 243; refine HC.out.mono ?_; rintro e W5 hp; obtain ⟨he, hk⟩ := hp.no HR.out; unfold faultE at he; subst he; have HK5 := Lib.hid (HK4.out.trans hk); clear hk hp HC)
      exact ⟨rfl, RPost.fault HK5.out (HQ.out.symm.trans (bind_no HR.out))⟩
    have HR := Lib.hid hr
    clear hr
    obtain ⟨p0, p1, p2, pf, pl⟩ := cells3p HP_4.out
    go_upto_region 7 with (go_at_call 243; refine HC.out.mono ?_; rintro e W5 hp; obtain ⟨hk, j5, v5, rfl, hl, hj, hrd, hv⟩ := hp.ok HR.out; subst hl; obtain ⟨ah, al, rfl, hae, hp2⟩ := hv; have HP := Lib.hid (And.intro hae hp2); clear hae hp2; have HK5 := Lib.hid (HK4.out.trans hk); have HKK5 := Lib.hid hk; have HH5 := Lib.hid hrd; have HJ5 := Lib.hid (Nat.le_trans HJ4.out hj); have HX5 := Lib.hid (hk.kept HX4.out HBb.out.1); have HP_5 := Lib.hid (hk.kept HP_4.out HNP.out.1); clear hk hp hrd hj HC; obtain ⟨p0, p1, p2, pf, pl⟩ := cells3p HP_5.out)
    clear p0 p1 p2 pf pl
    obtain ⟨W6, hW⟩ : ∃ W, W = (W5.setCell ⟨P, 2, none⟩ (.slice ah.oa al.length ah.cap)) := ⟨_, rfl⟩
    rw [← hW]
    have hs0 := set_box (j := 2) (v := .slice ah.oa al.length ah.cap) HP_5.out
    have hoth : ∀ x, x ≠ P → W6.heap[x]? = W5.heap[x]? := fun x hx => by rw [hW]; exact (hs0.2.1 x hx)
    have hb : Below P W5 W6 := by rw [hW]; exact hs0.1
    have HP_6 := Lib.hid (show W6.heap[P]? = some (.cells #[.string a1, .string ⟨#[]⟩, .slice ah.oa al.length ah.cap] 188) by rw [hW]; simpa using hs0.2.2)
    have HX6 := Lib.hid ((hoth B HNP.out.2.2.2.2).trans HX5.out)
    have HK6 := Lib.hid (HK5.out.box HNP.out.2.1 hb hoth)
    have HH6 := Lib.hid (HH5.out.box hb hoth HNP.out.1.symm HNP.out.2.2.1 HNP.out.2.2.2.1)
    have HJ6 := Lib.hid HJ5.out
    have HU0 := Lib.hid (und_box (B' := W4.heap.size) hb hoth (blk_lt HP_4.out) (Nat.le_refl _))
    have HU1 := Lib.hid (Row.und HP.out.2 HU0.out fun _ _ hx => StH.und _ _ _ _ HU0.out hx)
    clear hW hs0 hoth hb
    obtain ⟨p0, p1, p2, pf, pl⟩ := cells3p HP_6.out
    go_wp2_with (refine wpList_store_box rfl 188 (.tmp 2) (.tmp 19) rfl B 0 rfl (.agg #[.string a1, .string ⟨#[]⟩, .slice ah.oa al.length ah.cap]) rfl [.string a1, .string ⟨#[]⟩, .slice ah.oa al.length ah.cap] rfl [.string ⟨#[]⟩, .string ⟨#[]⟩, .slice none 0 0] 188 HX6.out (Nat.le_refl _) (show (Tryz.prog.info? 188).map (·.size) = some 3 by kernel_rfl) ?c1 B (Nat.le_refl _) W6 (Below.refl _ _) ?_)
    case c1 => first | exact rfl | exact ⟨rfl, rfl⟩ | exact ⟨rfl, rfl, rfl⟩ | exact ⟨rfl, rfl, rfl, rfl⟩ | exact ⟨rfl, rfl, rfl, rfl, rfl⟩ | exact ⟨rfl, rfl, rfl, rfl, rfl, rfl⟩ | (intro v hv; simp at hv; first | (rcases hv with rfl | rfl | rfl | rfl | rfl | rfl <;> rfl) | (rcases hv with rfl | rfl | rfl | rfl | rfl <;> rfl) | (rcases hv with rfl | rfl | rfl | rfl <;> rfl) | (rcases hv with rfl | rfl | rfl <;> rfl) | (rcases hv with rfl | rfl <;> rfl) | (subst hv; rfl))
    intro WF hb hbx hoth
    have HF := Lib.hid (And.intro (HK6.out.box HBb.out.2.2.2 hb hoth) (HH6.out.box hb hoth HBb.out.1.symm HBb.out.2.1 HBb.out.2.2.1))
    have hU0 := und_box (B' := w.heap.size) hb hoth (blk_lt HX4.out) HK4.out.size
    have HU := Lib.hid (Row.und HU1.out hU0 fun _ _ hx => StH.und _ _ _ _ hU0 hx)
    clear hU0
    clear hb
    obtain ⟨q0, q1, q2, qf, ql⟩ := cells3p (show WF.heap[B]? = some (.cells #[.string a1, .string ⟨#[]⟩, .slice ah.oa al.length ah.cap] 188) from hbx)
    go_wp2
    exact bodyPost_ret (v := .agg #[.string a1, .string ⟨#[]⟩, .slice ah.oa al.length ah.cap]) (by simp [results, Tryz.results330, go_sem, q0, q1, q2]) rfl (RPost.done HF.out.1 (HQ.out.symm.trans (map_ok HR.out)) HJ6.out HF.out.2 ⟨.mk a1 nil5 ah al, rfl, by rw [erAr, erSts_eq, HP.out.1], HU.out⟩)
end Go.Proofs.YtggdpgaedmegbaaGreatDoor
