/-
  What stands behind a =. Conditions: the reader lies in the heap; what is made and reckoned.
-/
import Derived.Test.YtggdpgaedmegbaaGreatDoorJPSet
namespace Go.Proofs.YtggdpgaedmegbaaGreatDoor
open Go.RowKit

set_option maxRecDepth 100000 in
set_option maxHeartbeats 4000000 in
theorem r_isSet {w : World} {b g cap : Nat} {ts : List Tok} {i dp : Nat} (H : RdAt w b g cap ts i dp) (hM : MadeC) (hK : ReckC) :
    Calls Tryz.prog 331 #[.pointer (some ⟨b, 0, none⟩)] w (RPost w b g cap ts i dp (isSetR (ts.drop i)) VRv) := by
  obtain ⟨r, hQ⟩ : ∃ r, isSetR (ts.drop i) = r := ⟨_, rfl⟩
  rw [hQ]
  have HQ := Lib.hid hQ
  clear hQ
  have HGB := Lib.hid (And.intro H.toks.1 H.vars.size)
  have HBW := Lib.hid (show b < w.heap.size from (Array.getElem?_eq_some_iff.1 H.at_).1)
  have HJ0 := Lib.hid (Nat.le_refl i)
  obtain ⟨W0, hW⟩ : ∃ W0, W0 = w.alloc (.cells #[.int .i64 0, .slice none 0 0, .string ⟨#[]⟩, .slice none 0 0, .string ⟨#[]⟩, .string ⟨#[]⟩] 103) := ⟨_, rfl⟩
  have hbW : Below w.heap.size w W0 := by rw [hW]; exact alloc_below _ _
  have hx0 : W0.heap[w.heap.size]? = some (.cells #[.int .i64 0, .slice none 0 0, .string ⟨#[]⟩, .slice none 0 0, .string ⟨#[]⟩, .string ⟨#[]⟩] 103) := by rw [hW, heap_alloc_new]
  have HH0 := Lib.hid (H.under hbW)
  have HK0 := Lib.hid (Kb.of_below (b := b) hbW)
  obtain ⟨B, hB⟩ : ∃ B, B = w.heap.size := ⟨_, rfl⟩
  rw [← hB] at hx0
  have HX0 := Lib.hid hx0
  clear hbW hx0 H
  go_enter Tryz.func331, Tryz.ntmps331
  go_upto_region 1 with fail
  rw [← hW]
  simp only [← hB]
  clear hW
  have HBb := Lib.hid (show B ≠ b ∧ g ≠ B ∧ nG ≤ B ∧ w.heap.size ≤ B by have h1 := HBW.out; have h2 := HGB.out; rw [hB]; exact ⟨by omega, by omega, h2.2, Nat.le_refl _⟩)
  replace hB := Lib.hid hB
  have HM := Lib.hid hM
  have HRk := Lib.hid hK
  clear hM hK
  have hc := need_any HH0.out wEq (by decide)
  have HC := Lib.hid hc
  clear hc
  rcases hr : needR wEq (ts.drop i) with ⟨a1, l1⟩ | ⟨er, p⟩
  rotate_left
  · have HR := Lib.hid hr
    clear hr
    go_wp2_with (go_at_call 237; refine HC.out.mono ?_; rintro e W1 hp; obtain ⟨he, hk⟩ := hp.no HR.out; unfold faultE at he; subst he; have HK1 := Lib.hid (HK0.out.trans hk); clear hk hp HC)
    exact ⟨rfl, RPost.fault HK1.out (HQ.out.symm.trans (bind_no HR.out))⟩
  have HR := Lib.hid hr
  clear hr
  go_upto_region 2 with (go_at_call 237; refine HC.out.mono ?_; rintro e W1 hp; obtain ⟨hk, j1, v1, rfl, hl, hj, hrd, hv⟩ := hp.ok HR.out; subst hl; unfold VUnit at hv; subst hv; have HK1 := Lib.hid (HK0.out.trans hk); have HKK1 := Lib.hid hk; have HH1 := Lib.hid hrd; have HJ1 := Lib.hid (Nat.le_trans HJ0.out hj); have HX1 := Lib.hid (hk.kept HX0.out HBb.out.1); clear hk hp hrd hj HC)
  have hQ := HQ.out
  unfold isSetR at hQ
  rw [bind_ok HR.out] at hQ
  replace HQ := Lib.hid hQ
  clear hQ HR
  have hc := r_set HH1.out HM.out HRk.out
  have HC := Lib.hid hc
  clear hc
  rcases hr : setR (ts.drop j1) with ⟨a2, l2⟩ | ⟨er, p⟩
  rotate_left
  · have HR := Lib.hid hr
    clear hr
    go_wp2_with (go_at_call 339; refine HC.out.mono ?_; rintro e W2 hp; obtain ⟨he, hk⟩ := hp.no HR.out; unfold faultE at he; subst he; have HK2 := Lib.hid (HK1.out.trans hk); clear hk hp HC)
    exact ⟨rfl, RPost.fault HK2.out (HQ.out.symm.trans HR.out)⟩
  have HR := Lib.hid hr
  clear hr
  go_wp2_with
    (first
      | (go_at_call 339; refine HC.out.mono ?_; rintro e W2 hp; obtain ⟨hk, j2, v2, rfl, hl, hj, hrd, hv⟩ := hp.ok HR.out; subst hl; obtain ⟨⟨rk, rh, ro, ⟨rpn, rph, rpp⟩, rn, rv⟩, rfl, rfl, hp⟩ := hv; simp only [rvV, rvC, plC, List.cons_append, List.nil_append]; have HP := Lib.hid hp; clear hp; have HK2 := Lib.hid (HK1.out.trans hk); have HKK2 := Lib.hid hk; have HH2 := Lib.hid hrd; have HJ2 := Lib.hid (Nat.le_trans HJ1.out hj); have HX2 := Lib.hid (hk.kept HX1.out HBb.out.1); clear hk hp hrd hj HC)
      | (refine wpList_store_box rfl 103 (.tmp 2) (.tmp 6) rfl B 0 rfl (.agg #[.int .i64 rk, .slice rh.oa ro.length rh.cap, .string rpn, .slice rph.oa rpp.length rph.cap, .string rn, .string rv]) rfl [.int .i64 rk, .slice rh.oa ro.length rh.cap, .string rpn, .slice rph.oa rpp.length rph.cap, .string rn, .string rv] rfl [.int .i64 0, .slice none 0 0, .string ⟨#[]⟩, .slice none 0 0, .string ⟨#[]⟩, .string ⟨#[]⟩] 103 HX2.out (Nat.le_refl _) (show (Tryz.prog.info? 103).map (·.size) = some 6 by kernel_rfl) ?c1 B (Nat.le_refl _) W2 (Below.refl _ _) ?_))
  case c1 => first | exact rfl | exact ⟨rfl, rfl⟩ | exact ⟨rfl, rfl, rfl⟩ | exact ⟨rfl, rfl, rfl, rfl⟩ | exact ⟨rfl, rfl, rfl, rfl, rfl⟩ | exact ⟨rfl, rfl, rfl, rfl, rfl, rfl⟩ | (intro v hv; simp at hv; first | (rcases hv with rfl | rfl | rfl | rfl | rfl | rfl <;> rfl) | (rcases hv with rfl | rfl | rfl | rfl | rfl <;> rfl) | (rcases hv with rfl | rfl | rfl | rfl <;> rfl) | (rcases hv with rfl | rfl | rfl <;> rfl) | (rcases hv with rfl | rfl <;> rfl) | (subst hv; rfl))
  intro WF hb hbx hoth
  have HF := Lib.hid (And.intro (HK2.out.box HBb.out.2.2.2 hb hoth) (HH2.out.box hb hoth HBb.out.1.symm HBb.out.2.1 HBb.out.2.2.1))
  have HU := Lib.hid (RvH.und _ _ _ (und_box hb hoth (blk_lt HX1.out) HK1.out.size) HP.out)
  clear hb
  obtain ⟨q0, q1, q2, q3, q4, q5, qf, ql⟩ := cells6p (show WF.heap[B]? = some (.cells #[.int .i64 rk, .slice rh.oa ro.length rh.cap, .string rpn, .slice rph.oa rpp.length rph.cap, .string rn, .string rv] 103) from hbx)
  go_wp2
  exact bodyPost_ret (v := .agg #[.int .i64 rk, .slice rh.oa ro.length rh.cap, .string rpn, .slice rph.oa rpp.length rph.cap, .string rn, .string rv]) (by simp [results, Tryz.results331, go_sem, q0, q1, q2, q3, q4, q5]) rfl (RPost.done HF.out.1 (HQ.out.symm.trans HR.out) HJ2.out HF.out.2 ⟨⟨rk, rh, ro, ⟨rpn, rph, rpp⟩, rn, rv⟩, rfl, rfl, HU.out⟩)
end Go.Proofs.YtggdpgaedmegbaaGreatDoor
