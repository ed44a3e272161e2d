/-
  Variants. Conditions: the reader lies in the heap.
-/
import Derived.Test.YtggdpgaedmegbaaGreatDoorJPOper
namespace Go.Proofs.YtggdpgaedmegbaaGreatDoor
open Go.RowKit

set_option maxRecDepth 100000 in
set_option maxHeartbeats 4000000 in
theorem r_variant {w : World} {b g cap : Nat} {ts : List Tok} {i dp : Nat} (H : RdAt w b g cap ts i dp) :
    Calls Tryz.prog 239 #[.pointer (some ⟨b, 0, none⟩)] w (RPost w b g cap ts i dp (variantR (ts.drop i)) (VFd 62)) := by
  obtain ⟨r, hQ⟩ : ∃ r, variantR (ts.drop i) = r := ⟨_, rfl⟩
  rw [hQ]
  have HQ := Lib.hid hQ
  clear hQ
  have HGB := Lib.hid (And.intro H.toks.1 H.vars.size)
  have HBW := Lib.hid (show b < w.heap.size from (Array.getElem?_eq_some_iff.1 H.at_).1)
  have HJ0 := Lib.hid (Nat.le_refl i)
  obtain ⟨W0, hW⟩ : ∃ W0, W0 = w.alloc (.cells #[.string ⟨#[]⟩, .int .i64 0, .string ⟨#[]⟩, .slice none 0 0] 63) := ⟨_, rfl⟩
  have hbW : Below w.heap.size w W0 := by rw [hW]; exact alloc_below _ _
  have hx0 : W0.heap[w.heap.size]? = some (.cells #[.string ⟨#[]⟩, .int .i64 0, .string ⟨#[]⟩, .slice none 0 0] 63) := by rw [hW, heap_alloc_new]
  have HH0 := Lib.hid (H.under hbW)
  have HK0 := Lib.hid (Kb.of_below (b := b) hbW)
  obtain ⟨B, hB⟩ : ∃ B, B = w.heap.size := ⟨_, rfl⟩
  rw [← hB] at hx0
  have HX0 := Lib.hid hx0
  clear hbW hx0 H
  go_enter Tryz.func239, Tryz.ntmps239
  go_upto_region 1 with fail
  rw [← hW]
  simp only [← hB]
  clear hW
  have HBb := Lib.hid (show B ≠ b ∧ g ≠ B ∧ nG ≤ B ∧ w.heap.size ≤ B by have h1 := HBW.out; have h2 := HGB.out; rw [hB]; exact ⟨by omega, by omega, h2.2, Nat.le_refl _⟩)
  replace hB := Lib.hid hB
  have hc := r_great HH0.out
  have HC := Lib.hid hc
  clear hc
  rcases hr : greatR (ts.drop i) with ⟨a1, l1⟩ | ⟨er, p⟩
  rotate_left
  · have HR := Lib.hid hr
    clear hr
    go_wp2_with (go_at_call 236; refine HC.out.mono ?_; rintro e W1 hp; obtain ⟨he, hk⟩ := hp.no HR.out; unfold faultE at he; subst he; have HK1 := Lib.hid (HK0.out.trans hk); clear hk hp HC)
    exact ⟨rfl, RPost.fault HK1.out (HQ.out.symm.trans (bind_no HR.out))⟩
  have HR := Lib.hid hr
  clear hr
  go_upto_region 2 with
    (first
      | (go_at_call 236; refine HC.out.mono ?_; rintro e W1 hp; obtain ⟨hk, j1, v1, rfl, hl, hj, hrd, hv⟩ := hp.ok HR.out; subst hl; unfold VStr at hv; subst hv; have HK1 := Lib.hid (HK0.out.trans hk); have HKK1 := Lib.hid hk; have HH1 := Lib.hid hrd; have HJ1 := Lib.hid (Nat.le_trans HJ0.out hj); have HX1 := Lib.hid (hk.kept HX0.out HBb.out.1); clear hk hp hrd hj HC)
      | (refine wpList_store_box rfl 63 (.tmp 3) (.tmp 6) rfl W1.heap.size 0 rfl (.agg #[.string a1, .int .i64 0, .string ⟨#[]⟩, .slice none 0 0]) rfl [.string a1, .int .i64 0, .string ⟨#[]⟩, .slice none 0 0] rfl [.string ⟨#[]⟩, .int .i64 0, .string ⟨#[]⟩, .slice none 0 0] 63 (heap_alloc_new W1 (.cells #[.string ⟨#[]⟩, .int .i64 0, .string ⟨#[]⟩, .slice none 0 0] 63)) (Nat.le_refl _) (show (Tryz.prog.info? 63).map (·.size) = some 4 by kernel_rfl) ?c1 W1.heap.size (Nat.le_refl _) (W1.alloc (.cells #[.string ⟨#[]⟩, .int .i64 0, .string ⟨#[]⟩, .slice none 0 0] 63)) (Below.refl _ _) ?_; rotate_left; intro W2 hb hbx hoth))
  case c1 => first | exact rfl | exact ⟨rfl, rfl⟩ | exact ⟨rfl, rfl, rfl⟩ | exact ⟨rfl, rfl, rfl, rfl⟩ | (intro v hv; simp at hv; first | (rcases hv with rfl | rfl | rfl | rfl <;> rfl) | (rcases hv with rfl | rfl | rfl <;> rfl))
  have hQ := HQ.out
  unfold variantR at hQ
  rw [bind_ok HR.out] at hQ
  replace HQ := Lib.hid hQ
  clear hQ HR
  obtain ⟨O, hO⟩ : ∃ O, O = Obj.cells #[.string ⟨#[]⟩, .int .i64 0, .string ⟨#[]⟩, .slice none 0 0] 63 := ⟨_, rfl⟩
  rw [← hO] at hb hoth
  clear hO
  obtain ⟨P, hP⟩ : ∃ P, P = W1.heap.size := ⟨_, rfl⟩
  rw [← hP] at hb hbx hoth
  simp only [← hP]
  have hal := alloc_below W1 O
  rw [← hP] at hal
  have hBP : B < P := by rw [hP]; exact blk_lt HX1.out
  have hbP : b < P := by rw [hP]; exact blk_lt HH1.out.at_
  have hgP : g < P := by rw [hP]; exact HH1.out.toks.1
  have hwP : w.heap.size ≤ P := by rw [hP]; exact HK1.out.size
  have hnP : nG ≤ P := by have := HBb.out.2.2.1; omega
  have HB2 := Lib.hid (hal.trans hb)
  have HP_2 := Lib.hid (show W2.heap[P]? = some (.cells #[.string a1, .int .i64 0, .string ⟨#[]⟩, .slice none 0 0] 63) from hbx)
  have HX2 := Lib.hid ((HB2.out.block B hBP).trans HX1.out)
  have HH2 := Lib.hid (show RdAt W2 b g cap ts j1 dp by have h1 := HH1.out; exact h1.keep (Kb.of_below (hP ▸ HB2.out)) ((HB2.out.block b hbP).trans h1.at_) h1.lt)
  have HK2 := Lib.hid (show Kb b w W2 from HK1.out.trans (Kb.of_below (hP ▸ HB2.out)))
  have HJ2 := Lib.hid HJ1.out
  have HNP := Lib.hid (show P ≠ b ∧ w.heap.size ≤ P ∧ g ≠ P ∧ nG ≤ P ∧ B ≠ P from ⟨by omega, hwP, by omega, hnP, by omega⟩)
  clear hal hb hbx hoth hBP hbP hgP hwP hnP HB2
  replace hP := Lib.hid hP
  obtain ⟨t3, ht3, hh, -⟩ := HH2.out.tok
  have htk := takes_any HH2.out ht3 wLP (by decide)
  have HTK := Lib.hid htk
  have HT3 := Lib.hid ht3
  clear htk hh ht3
  by_cases hts : t3.text = wLP
  · have HS := Lib.hid hts
    clear hts
    obtain ⟨p0, p1, p2, p3, pf, pl⟩ := cells4 HP_2.out
    go_upto_region 3 with (go_at_call 172; refine HTK.out.mono ?_; rintro e W3 ⟨h1, -⟩; obtain ⟨rfl, hk, hrd⟩ := h1 HS.out; have HK3 := Lib.hid (HK2.out.trans hk); have HH3 := Lib.hid hrd; have HJ3 := Lib.hid (Nat.le_succ_of_le HJ2.out); have HX3 := Lib.hid (hk.kept HX2.out HBb.out.1); have HP_3 := Lib.hid (hk.kept HP_2.out HNP.out.1); clear h1 hk hrd HTK)
    have hQ := HQ.out
    rw [opt_yes HH2.out HT3.out HS.out] at hQ
    replace HQ := Lib.hid hQ
    clear hQ HS
    clear p0 p1 p2 p3 pf pl
    have hc := r_ty HH3.out (tyC_all 61)
    have HC := Lib.hid hc
    clear hc
    rcases hr : tyR 61 (ts.drop (j1 + 1)) with ⟨a4, l4⟩ | ⟨er, p⟩
    rotate_left
    · have HR := Lib.hid hr
      clear hr
      obtain ⟨p0, p1, p2, p3, pf, pl⟩ := cells4 HP_3.out
      go_wp2_with (go_at_call 287; refine HC.out.mono ?_; rintro e W4 hp; obtain ⟨he, hk⟩ := hp.no HR.out; unfold faultE at he; subst he; have HK4 := Lib.hid (HK3.out.trans hk); clear hk hp HC)
      exact ⟨rfl, RPost.fault HK4.out (HQ.out.symm.trans (bind_no HR.out))⟩
    have HR := Lib.hid hr
    clear hr
    obtain ⟨p0, p1, p2, p3, pf, pl⟩ := cells4 HP_3.out
    go_upto_region 4 with
      (first
        | (go_at_call 287; refine HC.out.mono ?_; rintro e W4 hp; obtain ⟨hk, j4, v4, rfl, hl, hj, hrd, hv⟩ := hp.ok HR.out; subst hl; obtain ⟨x1, rfl, rfl, hp⟩ := hv; obtain ⟨kk, nm, hh1, ll⟩ := x1; simp only [tyV, tyC]; have HP := Lib.hid hp; clear hp; have HK4 := Lib.hid (HK3.out.trans hk); have HKK4 := Lib.hid hk; have HH4 := Lib.hid hrd; have HJ4 := Lib.hid (Nat.le_trans HJ3.out hj); have HX4 := Lib.hid (hk.kept HX3.out HBb.out.1); have HP_4 := Lib.hid (hk.kept HP_3.out HNP.out.1); clear hk hp hrd hj HC)
        | (refine wpList_store_box rfl 51 (.tmp 11) (.tmp 10) rfl P 1 rfl (.agg #[.int .i64 kk, .string nm, .slice hh1.oa ll.length hh1.cap]) rfl [.int .i64 kk, .string nm, .slice hh1.oa ll.length hh1.cap] rfl [.string a1, .int .i64 0, .string ⟨#[]⟩, .slice none 0 0] 63 HP_4.out (Nat.le_refl _) (show (Tryz.prog.info? 51).map (·.size) = some 3 by kernel_rfl) ?c1 P (Nat.le_refl _) W4 (Below.refl _ _) ?_; rotate_left; intro W5 hb hbx hoth))
    case c1 => first | exact rfl | exact ⟨rfl, rfl⟩ | exact ⟨rfl, rfl, rfl⟩ | exact ⟨rfl, rfl, rfl, rfl⟩ | (intro v hv; simp at hv; first | (rcases hv with rfl | rfl | rfl | rfl <;> rfl) | (rcases hv with rfl | rfl | rfl <;> rfl))
    have hQ := HQ.out
    rw [bind_ok HR.out] at hQ
    replace HQ := Lib.hid hQ
    clear hQ HR
    have HK5 := Lib.hid (HK4.out.box HNP.out.2.1 hb hoth)
    have HH5 := Lib.hid (HH4.out.box hb hoth HNP.out.1.symm HNP.out.2.2.1 HNP.out.2.2.2.1)
    have HX5 := Lib.hid ((hoth B HNP.out.2.2.2.2).trans HX4.out)
    have HP_5 := Lib.hid (show W5.heap[P]? = some (.cells #[.string a1, .int .i64 kk, .string nm, .slice hh1.oa ll.length hh1.cap] 63) from hbx)
    have HJ5 := Lib.hid HJ4.out
    have HU1 := Lib.hid (TyH.und _ _ _ _ (und_box (B' := W3.heap.size) hb hoth (blk_lt HP_3.out) (Nat.le_refl _)) HP.out)
    clear hb hbx hoth p0 p1 p2 p3 pf pl
    have hc := need_any HH5.out wRP (by decide)
    have HC := Lib.hid hc
    clear hc
    rcases hr : needR wRP (ts.drop j4) with ⟨a6, l6⟩ | ⟨er, p⟩
    rotate_left
    · have HR := Lib.hid hr
      clear hr
      obtain ⟨p0, p1, p2, p3, pf, pl⟩ := cells4 HP_5.out
      go_wp2_with (go_at_call 237; refine HC.out.mono ?_; rintro e W6 hp; obtain ⟨he, hk⟩ := hp.no HR.out; unfold faultE at he; subst he; have HK6 := Lib.hid (HK5.out.trans hk); clear hk hp HC)
      exact ⟨rfl, RPost.fault HK6.out (HQ.out.symm.trans (bind_no HR.out))⟩
    have HR := Lib.hid hr
    clear hr
    obtain ⟨p0, p1, p2, p3, pf, pl⟩ := cells4 HP_5.out
    go_upto_region 5 with (go_at_call 237; refine HC.out.mono ?_; rintro e W6 hp; obtain ⟨hk, j6, v6, rfl, hl, hj, hrd, hv⟩ := hp.ok HR.out; subst hl; unfold VUnit at hv; subst hv; have HK6 := Lib.hid (HK5.out.trans hk); have HKK6 := Lib.hid hk; have HH6 := Lib.hid hrd; have HJ6 := Lib.hid (Nat.le_trans HJ5.out hj); have HX6 := Lib.hid (hk.kept HX5.out HBb.out.1); have HP_6 := Lib.hid (hk.kept HP_5.out HNP.out.1); clear hk hp hrd hj HC)
    clear p0 p1 p2 p3 pf pl
    have hQ := HQ.out
    unfold mapR at hQ
    rw [bind_ok HR.out] at hQ
    replace HQ := Lib.hid hQ
    clear hQ HR
    have HU2 := Lib.hid (TyH.und _ _ _ _ (HKK6.out.und (Nat.lt_of_lt_of_le HBW.out HK3.out.size) (Nat.le_refl _)) HU1.out)
    obtain ⟨p0, p1, p2, p3, pf, pl⟩ := cells4 HP_6.out
    go_wp2_with (refine wpList_store_box rfl 63 (.tmp 2) (.tmp 14) rfl B 0 rfl (.agg #[.string a1, .int .i64 kk, .string nm, .slice hh1.oa ll.length hh1.cap]) rfl [.string a1, .int .i64 kk, .string nm, .slice hh1.oa ll.length hh1.cap] rfl [.string ⟨#[]⟩, .int .i64 0, .string ⟨#[]⟩, .slice none 0 0] 63 HX6.out (Nat.le_refl _) (show (Tryz.prog.info? 63).map (·.size) = some 4 by kernel_rfl) ?c1 B (Nat.le_refl _) W6 (Below.refl _ _) ?_)
    case c1 => first | exact rfl | exact ⟨rfl, rfl⟩ | exact ⟨rfl, rfl, rfl⟩ | exact ⟨rfl, rfl, rfl, rfl⟩ | exact ⟨rfl, rfl, rfl, rfl, rfl⟩ | exact ⟨rfl, rfl, rfl, rfl, rfl, rfl⟩ | (intro v hv; simp at hv; first | (rcases hv with rfl | rfl | rfl | rfl | rfl | rfl <;> rfl) | (rcases hv with rfl | rfl | rfl | rfl | rfl <;> rfl) | (rcases hv with rfl | rfl | rfl | rfl <;> rfl) | (rcases hv with rfl | rfl | rfl <;> rfl) | (rcases hv with rfl | rfl <;> rfl) | (subst hv; rfl))
    intro WF hb hbx hoth
    have HF := Lib.hid (And.intro (HK6.out.box HBb.out.2.2.2 hb hoth) (HH6.out.box hb hoth HBb.out.1.symm HBb.out.2.1 HBb.out.2.2.1))
    have HU := Lib.hid (TyH.und _ _ _ _ (und_box hb hoth (blk_lt HX3.out) HK3.out.size) HU2.out)
    clear hb
    obtain ⟨q0, q1, q2, q3, qf, ql⟩ := cells4 (show WF.heap[B]? = some (.cells #[.string a1, .int .i64 kk, .string nm, .slice hh1.oa ll.length hh1.cap] 63) from hbx)
    go_wp2
    exact bodyPost_ret (v := .agg #[.string a1, .int .i64 kk, .string nm, .slice hh1.oa ll.length hh1.cap]) (by simp [results, Tryz.results239, go_sem, q0, q1, q2, q3]) rfl (RPost.done HF.out.1 HQ.out.symm HJ6.out HF.out.2 ⟨⟨a1, .mk kk nm hh1 ll⟩, rfl, rfl, HU.out⟩)
  · have HS := Lib.hid hts
    clear hts
    obtain ⟨p0, p1, p2, p3, pf, pl⟩ := cells4 HP_2.out
    go_upto_region 5 with (go_at_call 172; refine HTK.out.mono ?_; rintro e W3 ⟨-, h1⟩; obtain ⟨rfl, hb⟩ := h1 HS.out; have hk := Kb.of_below (b := b) hb; have HK3 := Lib.hid (HK2.out.trans hk); have HH3 := Lib.hid (HH2.out.under hb); have HJ3 := Lib.hid HJ2.out; have HX3 := Lib.hid (hk.kept HX2.out HBb.out.1); have HP_3 := Lib.hid (hk.kept HP_2.out HNP.out.1); clear h1 hk hb HTK)
    have hQ := HQ.out
    rw [opt_no HH2.out HT3.out HS.out] at hQ
    replace HQ := Lib.hid hQ
    clear hQ HS
    clear p0 p1 p2 p3 pf pl
    obtain ⟨p0, p1, p2, p3, pf, pl⟩ := cells4 HP_3.out
    go_wp2_with (refine wpList_store_box rfl 63 (.tmp 2) (.tmp 14) rfl B 0 rfl (.agg #[.string a1, .int .i64 0, .string ⟨#[]⟩, .slice none 0 0]) rfl [.string a1, .int .i64 0, .string ⟨#[]⟩, .slice none 0 0] rfl [.string ⟨#[]⟩, .int .i64 0, .string ⟨#[]⟩, .slice none 0 0] 63 HX3.out (Nat.le_refl _) (show (Tryz.prog.info? 63).map (·.size) = some 4 by kernel_rfl) ?c1 B (Nat.le_refl _) W3 (Below.refl _ _) ?_)
    case c1 => first | exact rfl | exact ⟨rfl, rfl⟩ | exact ⟨rfl, rfl, rfl⟩ | exact ⟨rfl, rfl, rfl, rfl⟩ | exact ⟨rfl, rfl, rfl, rfl, rfl⟩ | exact ⟨rfl, rfl, rfl, rfl, rfl, rfl⟩ | (intro v hv; simp at hv; first | (rcases hv with rfl | rfl | rfl | rfl | rfl | rfl <;> rfl) | (rcases hv with rfl | rfl | rfl | rfl | rfl <;> rfl) | (rcases hv with rfl | rfl | rfl | rfl <;> rfl) | (rcases hv with rfl | rfl | rfl <;> rfl) | (rcases hv with rfl | rfl <;> rfl) | (subst hv; rfl))
    intro WF hb hbx hoth
    have HF := Lib.hid (And.intro (HK3.out.box HBb.out.2.2.2 hb hoth) (HH3.out.box hb hoth HBb.out.1.symm HBb.out.2.1 HBb.out.2.2.1))
    clear hb
    obtain ⟨q0, q1, q2, q3, qf, ql⟩ := cells4 (show WF.heap[B]? = some (.cells #[.string a1, .int .i64 0, .string ⟨#[]⟩, .slice none 0 0] 63) from hbx)
    go_wp2
    exact bodyPost_ret (v := .agg #[.string a1, .int .i64 0, .string ⟨#[]⟩, .slice none 0 0]) (by simp [results, Tryz.results239, go_sem, q0, q1, q2, q3]) rfl (RPost.done HF.out.1 HQ.out.symm HJ3.out HF.out.2 ⟨⟨a1, .mk 0 nil5 h0 []⟩, rfl, rfl, ⟨show I64 0 from ⟨by decide, by decide⟩, Row.nil _ _ _ _⟩⟩)
end Go.Proofs.YtggdpgaedmegbaaGreatDoor
