/-
  What is set: references, boxes, what is started, waited for. Conditions: the reader lies in the heap; what is made and reckoned.
-/
import Derived.Test.YtggdpgaedmegbaaGreatDoorJPVar
namespace Go.Proofs.YtggdpgaedmegbaaGreatDoor
open Go.RowKit

theorem cells6p {w : World} {k : Nat} {v0 v1 v2 v3 v4 v5 : Value} {t : TypeId} (h : w.heap[k]? = some (.cells #[v0, v1, v2, v3, v4, v5] t)) :
    w.cell? ⟨k, 0, none⟩ = some v0 ∧ w.cell? ⟨k, 1, none⟩ = some v1 ∧ w.cell? ⟨k, 2, none⟩ = some v2 ∧ w.cell? ⟨k, 3, none⟩ = some v3 ∧ w.cell? ⟨k, 4, none⟩ = some v4 ∧ w.cell? ⟨k, 5, none⟩ = some v5 ∧ (∀ j, w.frozen? ⟨k, j, none⟩ = false) ∧ k < w.heap.size := by
  have hl := (Array.getElem?_eq_some_iff.1 h).1
  exact ⟨by simp [World.cell?, h], by simp [World.cell?, h], by simp [World.cell?, h], by simp [World.cell?, h], by simp [World.cell?, h], by simp [World.cell?, h], fun j => by simp [World.frozen?, h], hl⟩
def MadeC : Prop := ∀ (w : World) (b g cap : Nat) (ts : List Tok) (i dp : Nat), RdAt w b g cap ts i dp → Calls Tryz.prog 342 #[.pointer (some ⟨b, 0, none⟩)] w (RPost w b g cap ts i dp (madeR (ts.drop i)) VRv)
def ReckC : Prop := ∀ (w : World) (b g cap : Nat) (ts : List Tok) (i dp : Nat), RdAt w b g cap ts i dp → Calls Tryz.prog 343 #[.pointer (some ⟨b, 0, none⟩)] w (RPost w b g cap ts i dp (reckonedR (ts.drop i)) VRv)
set_option maxRecDepth 100000 in
set_option maxHeartbeats 4000000 in
theorem r_set {w : World} {b g cap : Nat} {ts : List Tok} {i dp : Nat} (H : RdAt w b g cap ts i dp) (hM : MadeC) (hK : ReckC) :
    Calls Tryz.prog 339 #[.pointer (some ⟨b, 0, none⟩)] w (RPost w b g cap ts i dp (setR (ts.drop i)) VRv) := by
  obtain ⟨r, hQ⟩ : ∃ r, setR (ts.drop i) = r := ⟨_, rfl⟩
  rw [hQ]
  have HQ := Lib.hid hQ
  clear hQ
  have HGB := Lib.hid (And.intro H.toks.1 H.vars.size)
  have HBW := Lib.hid (show b < w.heap.size from (Array.getElem?_eq_some_iff.1 H.at_).1)
  have HJ0 := Lib.hid (Nat.le_refl i)
  obtain ⟨W0, hW⟩ : ∃ W0, W0 = w.alloc (.cells #[.int .i64 0, .slice none 0 0, .string ⟨#[]⟩, .slice none 0 0, .string ⟨#[]⟩, .string ⟨#[]⟩] 103) := ⟨_, rfl⟩
  have hbW : Below w.heap.size w W0 := by rw [hW]; exact alloc_below _ _
  have hx0 : W0.heap[w.heap.size]? = some (.cells #[.int .i64 0, .slice none 0 0, .string ⟨#[]⟩, .slice none 0 0, .string ⟨#[]⟩, .string ⟨#[]⟩] 103) := by rw [hW, heap_alloc_new]
  have HH0 := Lib.hid (H.under hbW)
  have HK0 := Lib.hid (Kb.of_below (b := b) hbW)
  obtain ⟨B, hB⟩ : ∃ B, B = w.heap.size := ⟨_, rfl⟩
  rw [← hB] at hx0
  have HX0 := Lib.hid hx0
  clear hbW hx0 H
  go_enter Tryz.func339, Tryz.ntmps339
  go_upto_region 1 with fail
  rw [← hW]
  simp only [← hB]
  clear hW
  have HBb := Lib.hid (show B ≠ b ∧ g ≠ B ∧ nG ≤ B ∧ w.heap.size ≤ B by have h1 := HBW.out; have h2 := HGB.out; rw [hB]; exact ⟨by omega, by omega, h2.2, Nat.le_refl _⟩)
  replace hB := Lib.hid hB
  have HM := Lib.hid hM
  have HRk := Lib.hid hK
  clear hM hK
  obtain ⟨t1, ht1, hh, -⟩ := HH0.out.tok
  have htk := takes_any HH0.out ht1 wAmp (by decide)
  have HTK := Lib.hid htk
  have HT1 := Lib.hid ht1
  clear htk hh ht1
  by_cases hts : t1.text = wAmp
  · have HS := Lib.hid hts
    clear hts
    go_upto_region 2 with (go_at_call 172; refine HTK.out.mono ?_; rintro e W1 ⟨h1, -⟩; obtain ⟨rfl, hk, hrd⟩ := h1 HS.out; have HK1 := Lib.hid (HK0.out.trans hk); have HH1 := Lib.hid hrd; have HJ1 := Lib.hid (Nat.le_succ_of_le HJ0.out); have HX1 := Lib.hid (hk.kept HX0.out HBb.out.1); clear h1 hk hrd HTK)
    have hQ := HQ.out
    unfold setR at hQ
    rw [opt_yes HH0.out HT1.out HS.out] at hQ
    replace HQ := Lib.hid hQ
    clear hQ HS
    obtain ⟨t2, ht2, hh, -⟩ := HH1.out.tok
    have htk := takes_any HH1.out ht2 wMut (by decide)
    have HTK := Lib.hid htk
    have HT2 := Lib.hid ht2
    clear htk hh ht2
    by_cases hts : t2.text = wMut
    · have HS := Lib.hid hts
      clear hts
      go_upto_region 3 with (go_at_call 172; refine HTK.out.mono ?_; rintro e W2 ⟨h1, -⟩; obtain ⟨rfl, hk, hrd⟩ := h1 HS.out; have HK2 := Lib.hid (HK1.out.trans hk); have HH2 := Lib.hid hrd; have HJ2 := Lib.hid (Nat.le_succ_of_le HJ1.out); have HX2 := Lib.hid (hk.kept HX1.out HBb.out.1); clear h1 hk hrd HTK)
      have hQ := HQ.out
      rw [opt_yes HH1.out HT2.out HS.out] at hQ
      replace HQ := Lib.hid hQ
      clear hQ HS
      have hc := r_place HH2.out
      have HC := Lib.hid hc
      clear hc
      rcases hr : placeR (ts.drop ((i + 1) + 1)) with ⟨a3, l3⟩ | ⟨er, p⟩
      rotate_left
      · have HR := Lib.hid hr
        clear hr
        go_wp2_with (go_at_call 332; refine HC.out.mono ?_; rintro e W3 hp; obtain ⟨he, hk⟩ := hp.no HR.out; unfold faultE at he; subst he; have HK3 := Lib.hid (HK2.out.trans hk); clear hk hp HC)
        exact ⟨rfl, RPost.fault HK3.out (HQ.out.symm.trans (bind_no HR.out))⟩
      have HR := Lib.hid hr
      clear hr
      go_wp2_with
        (first
          | (go_at_call 332; refine HC.out.mono ?_; rintro e W3 hp; obtain ⟨hk, j3, v3, rfl, hl, hj, hrd, hv⟩ := hp.ok HR.out; subst hl; obtain ⟨⟨xn, xh, xp⟩, rfl, rfl, hp⟩ := hv; simp only [plV, plC]; have HP := Lib.hid hp; clear hp; have HK3 := Lib.hid (HK2.out.trans hk); have HKK3 := Lib.hid hk; have HH3 := Lib.hid hrd; have HJ3 := Lib.hid (Nat.le_trans HJ2.out hj); have HX3 := Lib.hid (hk.kept HX2.out HBb.out.1); clear hk hp hrd hj HC)
          | (refine wpList_store_box rfl 103 (.tmp 2) (.tmp 10) rfl B 0 rfl (.agg #[.int .i64 7, .slice none 0 0, .string xn, .slice xh.oa xp.length xh.cap, .string ⟨#[]⟩, .string ⟨#[]⟩]) rfl [.int .i64 7, .slice none 0 0, .string xn, .slice xh.oa xp.length xh.cap, .string ⟨#[]⟩, .string ⟨#[]⟩] rfl [.int .i64 0, .slice none 0 0, .string ⟨#[]⟩, .slice none 0 0, .string ⟨#[]⟩, .string ⟨#[]⟩] 103 HX3.out (Nat.le_refl _) (show (Tryz.prog.info? 103).map (·.size) = some 6 by kernel_rfl) ?c1 B (Nat.le_refl _) W3 (Below.refl _ _) ?_))
      case c1 => first | exact rfl | exact ⟨rfl, rfl⟩ | exact ⟨rfl, rfl, rfl⟩ | exact ⟨rfl, rfl, rfl, rfl⟩ | exact ⟨rfl, rfl, rfl, rfl, rfl⟩ | exact ⟨rfl, rfl, rfl, rfl, rfl, rfl⟩ | (intro v hv; simp at hv; first | (rcases hv with rfl | rfl | rfl | rfl | rfl | rfl <;> rfl) | (rcases hv with rfl | rfl | rfl | rfl | rfl <;> rfl) | (rcases hv with rfl | rfl | rfl | rfl <;> rfl) | (rcases hv with rfl | rfl | rfl <;> rfl) | (rcases hv with rfl | rfl <;> rfl) | (subst hv; rfl))
      intro WF hb hbx hoth
      have HF := Lib.hid (And.intro (HK3.out.box HBb.out.2.2.2 hb hoth) (HH3.out.box hb hoth HBb.out.1.symm HBb.out.2.1 HBb.out.2.2.1))
      have HU := Lib.hid (PlH.und _ _ _ (und_box hb hoth (blk_lt HX2.out) HK2.out.size) HP.out)
      clear hb
      obtain ⟨q0, q1, q2, q3, q4, q5, qf, ql⟩ := cells6p (show WF.heap[B]? = some (.cells #[.int .i64 7, .slice none 0 0, .string xn, .slice xh.oa xp.length xh.cap, .string ⟨#[]⟩, .string ⟨#[]⟩] 103) from hbx)
      go_wp2
      exact bodyPost_ret (v := .agg #[.int .i64 7, .slice none 0 0, .string xn, .slice xh.oa xp.length xh.cap, .string ⟨#[]⟩, .string ⟨#[]⟩]) (by simp [results, Tryz.results339, go_sem, q0, q1, q2, q3, q4, q5]) rfl (RPost.done HF.out.1 (HQ.out.symm.trans (map_ok HR.out)) HJ3.out HF.out.2 ⟨⟨7, h0, [], ⟨xn, xh, xp⟩, nil5, nil5⟩, rfl, rfl, ⟨show I64 7 from ⟨by decide, by decide⟩, Row.nil _ _ _ _, HU.out⟩⟩)
    · have HS := Lib.hid hts
      clear hts
      go_upto_region 4 with (go_at_call 172; refine HTK.out.mono ?_; rintro e W2 ⟨-, h1⟩; obtain ⟨rfl, hb⟩ := h1 HS.out; have hk := Kb.of_below (b := b) hb; have HK2 := Lib.hid (HK1.out.trans hk); have HH2 := Lib.hid (HH1.out.under hb); have HJ2 := Lib.hid HJ1.out; have HX2 := Lib.hid (hk.kept HX1.out HBb.out.1); clear h1 hk hb HTK)
      have hQ := HQ.out
      rw [opt_no HH1.out HT2.out HS.out] at hQ
      replace HQ := Lib.hid hQ
      clear hQ HS
      have hc := r_place HH2.out
      have HC := Lib.hid hc
      clear hc
      rcases hr : placeR (ts.drop (i + 1)) with ⟨a3, l3⟩ | ⟨er, p⟩
      rotate_left
      · have HR := Lib.hid hr
        clear hr
        go_wp2_with (go_at_call 332; refine HC.out.mono ?_; rintro e W3 hp; obtain ⟨he, hk⟩ := hp.no HR.out; unfold faultE at he; subst he; have HK3 := Lib.hid (HK2.out.trans hk); clear hk hp HC)
        exact ⟨rfl, RPost.fault HK3.out (HQ.out.symm.trans (bind_no HR.out))⟩
      have HR := Lib.hid hr
      clear hr
      go_wp2_with
        (first
          | (go_at_call 332; refine HC.out.mono ?_; rintro e W3 hp; obtain ⟨hk, j3, v3, rfl, hl, hj, hrd, hv⟩ := hp.ok HR.out; subst hl; obtain ⟨⟨xn, xh, xp⟩, rfl, rfl, hp⟩ := hv; simp only [plV, plC]; have HP := Lib.hid hp; clear hp; have HK3 := Lib.hid (HK2.out.trans hk); have HKK3 := Lib.hid hk; have HH3 := Lib.hid hrd; have HJ3 := Lib.hid (Nat.le_trans HJ2.out hj); have HX3 := Lib.hid (hk.kept HX2.out HBb.out.1); clear hk hp hrd hj HC)
          | (refine wpList_store_box rfl 103 (.tmp 2) (.tmp 13) rfl B 0 rfl (.agg #[.int .i64 6, .slice none 0 0, .string xn, .slice xh.oa xp.length xh.cap, .string ⟨#[]⟩, .string ⟨#[]⟩]) rfl [.int .i64 6, .slice none 0 0, .string xn, .slice xh.oa xp.length xh.cap, .string ⟨#[]⟩, .string ⟨#[]⟩] rfl [.int .i64 0, .slice none 0 0, .string ⟨#[]⟩, .slice none 0 0, .string ⟨#[]⟩, .string ⟨#[]⟩] 103 HX3.out (Nat.le_refl _) (show (Tryz.prog.info? 103).map (·.size) = some 6 by kernel_rfl) ?c1 B (Nat.le_refl _) W3 (Below.refl _ _) ?_))
      case c1 => first | exact rfl | exact ⟨rfl, rfl⟩ | exact ⟨rfl, rfl, rfl⟩ | exact ⟨rfl, rfl, rfl, rfl⟩ | exact ⟨rfl, rfl, rfl, rfl, rfl⟩ | exact ⟨rfl, rfl, rfl, rfl, rfl, rfl⟩ | (intro v hv; simp at hv; first | (rcases hv with rfl | rfl | rfl | rfl | rfl | rfl <;> rfl) | (rcases hv with rfl | rfl | rfl | rfl | rfl <;> rfl) | (rcases hv with rfl | rfl | rfl | rfl <;> rfl) | (rcases hv with rfl | rfl | rfl <;> rfl) | (rcases hv with rfl | rfl <;> rfl) | (subst hv; rfl))
      intro WF hb hbx hoth
      have HF := Lib.hid (And.intro (HK3.out.box HBb.out.2.2.2 hb hoth) (HH3.out.box hb hoth HBb.out.1.symm HBb.out.2.1 HBb.out.2.2.1))
      have HU := Lib.hid (PlH.und _ _ _ (und_box hb hoth (blk_lt HX2.out) HK2.out.size) HP.out)
      clear hb
      obtain ⟨q0, q1, q2, q3, q4, q5, qf, ql⟩ := cells6p (show WF.heap[B]? = some (.cells #[.int .i64 6, .slice none 0 0, .string xn, .slice xh.oa xp.length xh.cap, .string ⟨#[]⟩, .string ⟨#[]⟩] 103) from hbx)
      go_wp2
      exact bodyPost_ret (v := .agg #[.int .i64 6, .slice none 0 0, .string xn, .slice xh.oa xp.length xh.cap, .string ⟨#[]⟩, .string ⟨#[]⟩]) (by simp [results, Tryz.results339, go_sem, q0, q1, q2, q3, q4, q5]) rfl (RPost.done HF.out.1 (HQ.out.symm.trans (map_ok HR.out)) HJ3.out HF.out.2 ⟨⟨6, h0, [], ⟨xn, xh, xp⟩, nil5, nil5⟩, rfl, rfl, ⟨show I64 6 from ⟨by decide, by decide⟩, Row.nil _ _ _ _, HU.out⟩⟩)
  · have HS := Lib.hid hts
    clear hts
    go_upto_region 5 with (go_at_call 172; refine HTK.out.mono ?_; rintro e W1 ⟨-, h1⟩; obtain ⟨rfl, hb⟩ := h1 HS.out; have hk := Kb.of_below (b := b) hb; have HK1 := Lib.hid (HK0.out.trans hk); have HH1 := Lib.hid (HH0.out.under hb); have HJ1 := Lib.hid HJ0.out; have HX1 := Lib.hid (hk.kept HX0.out HBb.out.1); clear h1 hk hb HTK)
    have hQ := HQ.out
    unfold setR at hQ
    rw [opt_no HH0.out HT1.out HS.out] at hQ
    replace HQ := Lib.hid hQ
    clear hQ HS
    obtain ⟨t2, ht2, hh, -⟩ := HH1.out.tok
    have htk := takes_any HH1.out ht2 wBox (by decide)
    have HTK := Lib.hid htk
    have HT2 := Lib.hid ht2
    clear htk hh ht2
    by_cases hts : t2.text = wBox
    · have HS := Lib.hid hts
      clear hts
      go_upto_region 6 with (go_at_call 172; refine HTK.out.mono ?_; rintro e W2 ⟨h1, -⟩; obtain ⟨rfl, hk, hrd⟩ := h1 HS.out; have HK2 := Lib.hid (HK1.out.trans hk); have HH2 := Lib.hid hrd; have HJ2 := Lib.hid (Nat.le_succ_of_le HJ1.out); have HX2 := Lib.hid (hk.kept HX1.out HBb.out.1); clear h1 hk hrd HTK)
      have hQ := HQ.out
      rw [opt_yes HH1.out HT2.out HS.out] at hQ
      replace HQ := Lib.hid hQ
      clear hQ HS
      have hc := r_oper HH2.out
      have HC := Lib.hid hc
      clear hc
      rcases hr : operR (ts.drop (i + 1)) with ⟨a3, l3⟩ | ⟨er, p⟩
      rotate_left
      · have HR := Lib.hid hr
        clear hr
        go_wp2_with (go_at_call 327; refine HC.out.mono ?_; rintro e W3 hp; obtain ⟨he, hk⟩ := hp.no HR.out; unfold faultE at he; subst he; have HK3 := Lib.hid (HK2.out.trans hk); clear hk hp HC)
        exact ⟨rfl, RPost.fault HK3.out (HQ.out.symm.trans (bind_no HR.out))⟩
      have HR := Lib.hid hr
      clear hr
      go_wp2_with
        (first
          | (go_at_call 327; refine HC.out.mono ?_; rintro e W3 hp; obtain ⟨hk, j3, v3, rfl, hl, hj, hrd, hv⟩ := hp.ok HR.out; subst hl; obtain ⟨⟨xb, xi, ⟨xn, xh, xp⟩⟩, rfl, rfl, hp⟩ := hv; simp only [opV, opC, plC, List.cons_append, List.nil_append]; have HP := Lib.hid hp; clear hp; have HK3 := Lib.hid (HK2.out.trans hk); have HKK3 := Lib.hid hk; have HH3 := Lib.hid hrd; have HJ3 := Lib.hid (Nat.le_trans HJ2.out hj); have HX3 := Lib.hid (hk.kept HX2.out HBb.out.1); clear hk hp hrd hj HC)
          | (refine wpList_store_box rfl 103 (.tmp 2) (.tmp 20) rfl B 0 rfl (.agg #[.int .i64 8, .slice (some ⟨W3.heap.size, 0, none⟩) 1 1, .string ⟨#[]⟩, .slice none 0 0, .string ⟨#[]⟩, .string ⟨#[]⟩]) rfl [.int .i64 8, .slice (some ⟨W3.heap.size, 0, none⟩) 1 1, .string ⟨#[]⟩, .slice none 0 0, .string ⟨#[]⟩, .string ⟨#[]⟩] rfl [.int .i64 0, .slice none 0 0, .string ⟨#[]⟩, .slice none 0 0, .string ⟨#[]⟩, .string ⟨#[]⟩] 103 (keepB HX3.out (alloc_below W3 (.cells #[.bool xb, .int .i64 xi, .string xn, .slice xh.oa xp.length xh.cap] 105))) (Nat.le_refl _) (show (Tryz.prog.info? 103).map (·.size) = some 6 by kernel_rfl) ?c1 B (Nat.le_refl _) (W3.alloc (.cells #[.bool xb, .int .i64 xi, .string xn, .slice xh.oa xp.length xh.cap] 105)) (Below.refl _ _) ?_))
      case c1 => first | exact ⟨rfl, rfl, rfl, rfl, rfl, rfl⟩ | (intro v hv; simp at hv; rcases hv with rfl | rfl | rfl | rfl | rfl | rfl <;> rfl) | (intro v hv; simp at hv; rcases hv with rfl | rfl | rfl | rfl | rfl <;> rfl) | (intro v hv; simp at hv; rcases hv with rfl | rfl | rfl | rfl <;> rfl)
      intro WF hb hbx hoth
      have hne : W3.heap.size ≠ B := fun e => by have := blk_lt HX3.out; omega
      have HF := Lib.hid (And.intro ((HK3.out.alloc (.cells #[.bool xb, .int .i64 xi, .string xn, .slice xh.oa xp.length xh.cap] 105)).box HBb.out.2.2.2 hb hoth) ((HH3.out.under (alloc_below W3 (.cells #[.bool xb, .int .i64 xi, .string xn, .slice xh.oa xp.length xh.cap] 105))).box hb hoth HBb.out.1.symm HBb.out.2.1 HBb.out.2.2.1))
      have HZ := Lib.hid ((hoth _ hne).trans (heap_alloc_new W3 (.cells #[.bool xb, .int .i64 xi, .string xn, .slice xh.oa xp.length xh.cap] 105)))
      have HU := Lib.hid (OpH.und _ _ _ ((eb_und (B := W2.heap.size) (B' := W2.heap.size) (og := none) (og' := none) (alloc_below W3 (.cells #[.bool xb, .int .i64 xi, .string xn, .slice xh.oa xp.length xh.cap] 105)).size fun x hx h1 h2 => ⟨h1, h2, (alloc_below W3 (.cells #[.bool xb, .int .i64 xi, .string xn, .slice xh.oa xp.length xh.cap] 105)).block x hx⟩).trans (und_box (B' := w.heap.size) hb hoth (blk_lt HX2.out) HK2.out.size)) HP.out)
      clear hb hne
      obtain ⟨q0, q1, q2, q3, q4, q5, qf, ql⟩ := cells6p (show WF.heap[B]? = some (.cells #[.int .i64 8, .slice (some ⟨W3.heap.size, 0, none⟩) 1 1, .string ⟨#[]⟩, .slice none 0 0, .string ⟨#[]⟩, .string ⟨#[]⟩] 103) from hbx)
      have HS := Lib.hid HK3.out.size
      go_wp2
      refine bodyPost_ret (v := .agg #[.int .i64 8, .slice (some ⟨W3.heap.size, 0, none⟩) 1 1, .string ⟨#[]⟩, .slice none 0 0, .string ⟨#[]⟩, .string ⟨#[]⟩]) (by simp [results, Tryz.results339, go_sem, q0, q1, q2, q3, q4, q5]) rfl (RPost.done HF.out.1 (HQ.out.symm.trans (map_ok HR.out)) HJ3.out HF.out.2 ⟨⟨8, ⟨some ⟨W3.heap.size, 0, none⟩, 1⟩, [⟨xb, xi, ⟨xn, xh, xp⟩⟩], ⟨nil5, h0, []⟩, nil5, nil5⟩, rfl, rfl, ?_⟩)
      exact ⟨show I64 8 from ⟨by decide, by decide⟩, row_lit (xs := [(⟨xb, xi, ⟨xn, xh, xp⟩⟩ : Op5)]) HZ.out opC_len HS.out (show 1 ≤ maxLen by decide) (fun x hx => by
        obtain rfl : x = (⟨xb, xi, ⟨xn, xh, xp⟩⟩ : Op5) := by simpa using hx
        exact HU.out), Row.nil _ _ _ _⟩
    · have HS := Lib.hid hts
      clear hts
      go_upto_region 7 with (go_at_call 172; refine HTK.out.mono ?_; rintro e W2 ⟨-, h1⟩; obtain ⟨rfl, hb⟩ := h1 HS.out; have hk := Kb.of_below (b := b) hb; have HK2 := Lib.hid (HK1.out.trans hk); have HH2 := Lib.hid (HH1.out.under hb); have HJ2 := Lib.hid HJ1.out; have HX2 := Lib.hid (hk.kept HX1.out HBb.out.1); clear h1 hk hb HTK)
      have hQ := HQ.out
      rw [opt_no HH1.out HT2.out HS.out] at hQ
      replace HQ := Lib.hid hQ
      clear hQ HS
      obtain ⟨t3, ht3, hh, -⟩ := HH2.out.tok
      have htk := takes_any HH2.out ht3 wUnbox (by decide)
      have HTK := Lib.hid htk
      have HT3 := Lib.hid ht3
      clear htk hh ht3
      by_cases hts : t3.text = wUnbox
      · have HS := Lib.hid hts
        clear hts
        go_upto_region 8 with (go_at_call 172; refine HTK.out.mono ?_; rintro e W3 ⟨h1, -⟩; obtain ⟨rfl, hk, hrd⟩ := h1 HS.out; have HK3 := Lib.hid (HK2.out.trans hk); have HH3 := Lib.hid hrd; have HJ3 := Lib.hid (Nat.le_succ_of_le HJ2.out); have HX3 := Lib.hid (hk.kept HX2.out HBb.out.1); clear h1 hk hrd HTK)
        have hQ := HQ.out
        rw [opt_yes HH2.out HT3.out HS.out] at hQ
        replace HQ := Lib.hid hQ
        clear hQ HS
        have hc := r_alone HH3.out
        have HC := Lib.hid hc
        clear hc
        rcases hr : aloneR (ts.drop (i + 1)) with ⟨a4, l4⟩ | ⟨er, p⟩
        rotate_left
        · have HR := Lib.hid hr
          clear hr
          go_wp2_with (go_at_call 328; refine HC.out.mono ?_; rintro e W4 hp; obtain ⟨he, hk⟩ := hp.no HR.out; unfold faultE at he; subst he; have HK4 := Lib.hid (HK3.out.trans hk); clear hk hp HC)
          exact ⟨rfl, RPost.fault HK4.out (HQ.out.symm.trans (bind_no HR.out))⟩
        have HR := Lib.hid hr
        clear hr
        go_wp2_with
          (first
            | (go_at_call 328; refine HC.out.mono ?_; rintro e W4 hp; obtain ⟨hk, j4, v4, rfl, hl, hj, hrd, hv⟩ := hp.ok HR.out; subst hl; obtain ⟨⟨xn, xh, xp⟩, rfl, rfl, hp⟩ := hv; simp only [plV, plC]; have HP := Lib.hid hp; clear hp; have HK4 := Lib.hid (HK3.out.trans hk); have HKK4 := Lib.hid hk; have HH4 := Lib.hid hrd; have HJ4 := Lib.hid (Nat.le_trans HJ3.out hj); have HX4 := Lib.hid (hk.kept HX3.out HBb.out.1); clear hk hp hrd hj HC)
            | (refine wpList_store_box rfl 103 (.tmp 2) (.tmp 26) rfl B 0 rfl (.agg #[.int .i64 9, .slice none 0 0, .string xn, .slice xh.oa xp.length xh.cap, .string ⟨#[]⟩, .string ⟨#[]⟩]) rfl [.int .i64 9, .slice none 0 0, .string xn, .slice xh.oa xp.length xh.cap, .string ⟨#[]⟩, .string ⟨#[]⟩] rfl [.int .i64 0, .slice none 0 0, .string ⟨#[]⟩, .slice none 0 0, .string ⟨#[]⟩, .string ⟨#[]⟩] 103 HX4.out (Nat.le_refl _) (show (Tryz.prog.info? 103).map (·.size) = some 6 by kernel_rfl) ?c1 B (Nat.le_refl _) W4 (Below.refl _ _) ?_))
        case c1 => first | exact rfl | exact ⟨rfl, rfl⟩ | exact ⟨rfl, rfl, rfl⟩ | exact ⟨rfl, rfl, rfl, rfl⟩ | exact ⟨rfl, rfl, rfl, rfl, rfl⟩ | exact ⟨rfl, rfl, rfl, rfl, rfl, rfl⟩ | (intro v hv; simp at hv; first | (rcases hv with rfl | rfl | rfl | rfl | rfl | rfl <;> rfl) | (rcases hv with rfl | rfl | rfl | rfl | rfl <;> rfl) | (rcases hv with rfl | rfl | rfl | rfl <;> rfl) | (rcases hv with rfl | rfl | rfl <;> rfl) | (rcases hv with rfl | rfl <;> rfl) | (subst hv; rfl))
        intro WF hb hbx hoth
        have HF := Lib.hid (And.intro (HK4.out.box HBb.out.2.2.2 hb hoth) (HH4.out.box hb hoth HBb.out.1.symm HBb.out.2.1 HBb.out.2.2.1))
        have HU := Lib.hid (PlH.und _ _ _ (und_box hb hoth (blk_lt HX3.out) HK3.out.size) HP.out)
        clear hb
        obtain ⟨q0, q1, q2, q3, q4, q5, qf, ql⟩ := cells6p (show WF.heap[B]? = some (.cells #[.int .i64 9, .slice none 0 0, .string xn, .slice xh.oa xp.length xh.cap, .string ⟨#[]⟩, .string ⟨#[]⟩] 103) from hbx)
        go_wp2
        exact bodyPost_ret (v := .agg #[.int .i64 9, .slice none 0 0, .string xn, .slice xh.oa xp.length xh.cap, .string ⟨#[]⟩, .string ⟨#[]⟩]) (by simp [results, Tryz.results339, go_sem, q0, q1, q2, q3, q4, q5]) rfl (RPost.done HF.out.1 (HQ.out.symm.trans (map_ok HR.out)) HJ4.out HF.out.2 ⟨⟨9, h0, [], ⟨xn, xh, xp⟩, nil5, nil5⟩, rfl, rfl, ⟨show I64 9 from ⟨by decide, by decide⟩, Row.nil _ _ _ _, HU.out⟩⟩)
      · have HS := Lib.hid hts
        clear hts
        go_upto_region 9 with (go_at_call 172; refine HTK.out.mono ?_; rintro e W3 ⟨-, h1⟩; obtain ⟨rfl, hb⟩ := h1 HS.out; have hk := Kb.of_below (b := b) hb; have HK3 := Lib.hid (HK2.out.trans hk); have HH3 := Lib.hid (HH2.out.under hb); have HJ3 := Lib.hid HJ2.out; have HX3 := Lib.hid (hk.kept HX2.out HBb.out.1); clear h1 hk hb HTK)
        have hQ := HQ.out
        rw [opt_no HH2.out HT3.out HS.out] at hQ
        replace HQ := Lib.hid hQ
        clear hQ HS
        obtain ⟨t4, ht4, hh, -⟩ := HH3.out.tok
        have htk := takes_any HH3.out ht4 wStart (by decide)
        have HTK := Lib.hid htk
        have HT4 := Lib.hid ht4
        clear htk hh ht4
        by_cases hts : t4.text = wStart
        · have HS := Lib.hid hts
          clear hts
          go_upto_region 10 with (go_at_call 172; refine HTK.out.mono ?_; rintro e W4 ⟨h1, -⟩; obtain ⟨rfl, hk, hrd⟩ := h1 HS.out; have HK4 := Lib.hid (HK3.out.trans hk); have HH4 := Lib.hid hrd; have HJ4 := Lib.hid (Nat.le_succ_of_le HJ3.out); have HX4 := Lib.hid (hk.kept HX3.out HBb.out.1); clear h1 hk hrd HTK)
          have hQ := HQ.out
          rw [opt_yes HH3.out HT4.out HS.out] at hQ
          replace HQ := Lib.hid hQ
          clear hQ HS
          have hc := r_small HH4.out
          have HC := Lib.hid hc
          clear hc
          rcases hr : smallR (ts.drop (i + 1)) with ⟨a5, l5⟩ | ⟨er, p⟩
          rotate_left
          · have HR := Lib.hid hr
            clear hr
            go_wp2_with (go_at_call 240; refine HC.out.mono ?_; rintro e W5 hp; obtain ⟨he, hk⟩ := hp.no HR.out; unfold faultE at he; subst he; have HK5 := Lib.hid (HK4.out.trans hk); clear hk hp HC)
            exact ⟨rfl, RPost.fault HK5.out (HQ.out.symm.trans (bind_no HR.out))⟩
          have HR := Lib.hid hr
          clear hr
          have hQ := HQ.out
          rw [bind_ok HR.out] at hQ
          have HQ1 := Lib.hid hQ
          clear hQ
          go_wp2_with
            (first
              | (go_at_call 240; refine HC.out.mono ?_; rintro e W5 hp; obtain ⟨hk, j5, v5, rfl, hl, hj, hrd, hv⟩ := hp.ok HR.out; subst hl; unfold VStr at hv; subst hv; have HK5 := Lib.hid (HK4.out.trans hk); have HKK5 := Lib.hid hk; have HH5 := Lib.hid hrd; have HJ5 := Lib.hid (Nat.le_trans HJ4.out hj); have HX5 := Lib.hid (hk.kept HX4.out HBb.out.1); clear hk hp hrd hj HC)
              | (go_at_call 341
                 refine (r_args HH5.out).mono ?_
                 rintro e W6 hp
                 rcases hr2 : argsR (ts.drop j5) with ⟨a6, l6⟩ | ⟨er, p⟩
                 rotate_left
                 · obtain ⟨he, hk⟩ := hp.no hr2
                   unfold faultE at he
                   subst he
                   exact ⟨rfl, RPost.fault (HK5.out.trans hk) (HQ1.out.symm.trans (map_no hr2))⟩
                 obtain ⟨hk, j6, v6, rfl, hl, hj, hrd, hv⟩ := hp.ok hr2
                 subst hl
                 obtain ⟨ah, al, rfl, hae, hp2⟩ := hv
                 have HP := Lib.hid (And.intro hae hp2)
                 have HR3 := Lib.hid hr2
                 have HK6 := Lib.hid (HK5.out.trans hk)
                 have HH6 := Lib.hid hrd
                 have HJ6 := Lib.hid (Nat.le_trans HJ5.out hj)
                 have HX6 := Lib.hid (hk.kept HX5.out HBb.out.1)
                 clear hk hp hrd hj hae hp2 hr2)
              | (refine wpList_store_box rfl 103 (.tmp 2) (.tmp 34) rfl B 0 rfl (.agg #[.int .i64 12, .slice ah.oa al.length ah.cap, .string ⟨#[]⟩, .slice none 0 0, .string a5, .string ⟨#[]⟩]) rfl [.int .i64 12, .slice ah.oa al.length ah.cap, .string ⟨#[]⟩, .slice none 0 0, .string a5, .string ⟨#[]⟩] rfl [.int .i64 0, .slice none 0 0, .string ⟨#[]⟩, .slice none 0 0, .string ⟨#[]⟩, .string ⟨#[]⟩] 103 HX6.out (Nat.le_refl _) (show (Tryz.prog.info? 103).map (·.size) = some 6 by kernel_rfl) ?c1 B (Nat.le_refl _) W6 (Below.refl _ _) ?_))
          case c1 => first | exact rfl | exact ⟨rfl, rfl⟩ | exact ⟨rfl, rfl, rfl⟩ | exact ⟨rfl, rfl, rfl, rfl⟩ | exact ⟨rfl, rfl, rfl, rfl, rfl⟩ | exact ⟨rfl, rfl, rfl, rfl, rfl, rfl⟩ | (intro v hv; simp at hv; first | (rcases hv with rfl | rfl | rfl | rfl | rfl | rfl <;> rfl) | (rcases hv with rfl | rfl | rfl | rfl | rfl <;> rfl) | (rcases hv with rfl | rfl | rfl | rfl <;> rfl) | (rcases hv with rfl | rfl | rfl <;> rfl) | (rcases hv with rfl | rfl <;> rfl) | (subst hv; rfl))
          intro WF hb hbx hoth
          have HF := Lib.hid (And.intro (HK6.out.box HBb.out.2.2.2 hb hoth) (HH6.out.box hb hoth HBb.out.1.symm HBb.out.2.1 HBb.out.2.2.1))
          have hU0 := und_box (B' := w.heap.size) hb hoth (blk_lt HX5.out) HK5.out.size
          have HU := Lib.hid (Row.und HP.out.2 hU0 fun _ _ hx => OpH.und _ _ _ hU0 hx)
          clear hU0
          clear hb
          obtain ⟨q0, q1, q2, q3, q4, q5, qf, ql⟩ := cells6p (show WF.heap[B]? = some (.cells #[.int .i64 12, .slice ah.oa al.length ah.cap, .string ⟨#[]⟩, .slice none 0 0, .string a5, .string ⟨#[]⟩] 103) from hbx)
          go_wp2
          exact bodyPost_ret (v := .agg #[.int .i64 12, .slice ah.oa al.length ah.cap, .string ⟨#[]⟩, .slice none 0 0, .string a5, .string ⟨#[]⟩]) (by simp [results, Tryz.results339, go_sem, q0, q1, q2, q3, q4, q5]) rfl (RPost.done HF.out.1 (HQ1.out.symm.trans (map_ok HR3.out)) HJ6.out HF.out.2 ⟨⟨12, ah, al, ⟨nil5, h0, []⟩, a5, nil5⟩, rfl, by unfold erRv; rw [HP.out.1]; rfl, ⟨show I64 12 from ⟨by decide, by decide⟩, HU.out, Row.nil _ _ _ _⟩⟩)
        · have HS := Lib.hid hts
          clear hts
          go_upto_region 11 with (go_at_call 172; refine HTK.out.mono ?_; rintro e W4 ⟨-, h1⟩; obtain ⟨rfl, hb⟩ := h1 HS.out; have hk := Kb.of_below (b := b) hb; have HK4 := Lib.hid (HK3.out.trans hk); have HH4 := Lib.hid (HH3.out.under hb); have HJ4 := Lib.hid HJ3.out; have HX4 := Lib.hid (hk.kept HX3.out HBb.out.1); clear h1 hk hb HTK)
          have hQ := HQ.out
          rw [opt_no HH3.out HT4.out HS.out] at hQ
          replace HQ := Lib.hid hQ
          clear hQ HS
          obtain ⟨t5, ht5, hh, -⟩ := HH4.out.tok
          have htk := takes_any HH4.out ht5 wAwait (by decide)
          have HTK := Lib.hid htk
          have HT5 := Lib.hid ht5
          clear htk hh ht5
          by_cases hts : t5.text = wAwait
          · have HS := Lib.hid hts
            clear hts
            go_upto_region 12 with (go_at_call 172; refine HTK.out.mono ?_; rintro e W5 ⟨h1, -⟩; obtain ⟨rfl, hk, hrd⟩ := h1 HS.out; have HK5 := Lib.hid (HK4.out.trans hk); have HH5 := Lib.hid hrd; have HJ5 := Lib.hid (Nat.le_succ_of_le HJ4.out); have HX5 := Lib.hid (hk.kept HX4.out HBb.out.1); clear h1 hk hrd HTK)
            have hQ := HQ.out
            rw [opt_yes HH4.out HT5.out HS.out] at hQ
            replace HQ := Lib.hid hQ
            clear hQ HS
            have hc := r_alone HH5.out
            have HC := Lib.hid hc
            clear hc
            rcases hr : aloneR (ts.drop (i + 1)) with ⟨a6, l6⟩ | ⟨er, p⟩
            rotate_left
            · have HR := Lib.hid hr
              clear hr
              go_wp2_with (go_at_call 328; refine HC.out.mono ?_; rintro e W6 hp; obtain ⟨he, hk⟩ := hp.no HR.out; unfold faultE at he; subst he; have HK6 := Lib.hid (HK5.out.trans hk); clear hk hp HC)
              exact ⟨rfl, RPost.fault HK6.out (HQ.out.symm.trans (bind_no HR.out))⟩
            have HR := Lib.hid hr
            clear hr
            go_wp2_with
              (first
                | (go_at_call 328; refine HC.out.mono ?_; rintro e W6 hp; obtain ⟨hk, j6, v6, rfl, hl, hj, hrd, hv⟩ := hp.ok HR.out; subst hl; obtain ⟨⟨xn, xh, xp⟩, rfl, rfl, hp⟩ := hv; simp only [plV, plC]; have HP := Lib.hid hp; clear hp; have HK6 := Lib.hid (HK5.out.trans hk); have HKK6 := Lib.hid hk; have HH6 := Lib.hid hrd; have HJ6 := Lib.hid (Nat.le_trans HJ5.out hj); have HX6 := Lib.hid (hk.kept HX5.out HBb.out.1); clear hk hp hrd hj HC)
                | (refine wpList_store_box rfl 103 (.tmp 2) (.tmp 40) rfl B 0 rfl (.agg #[.int .i64 13, .slice none 0 0, .string xn, .slice xh.oa xp.length xh.cap, .string ⟨#[]⟩, .string ⟨#[]⟩]) rfl [.int .i64 13, .slice none 0 0, .string xn, .slice xh.oa xp.length xh.cap, .string ⟨#[]⟩, .string ⟨#[]⟩] rfl [.int .i64 0, .slice none 0 0, .string ⟨#[]⟩, .slice none 0 0, .string ⟨#[]⟩, .string ⟨#[]⟩] 103 HX6.out (Nat.le_refl _) (show (Tryz.prog.info? 103).map (·.size) = some 6 by kernel_rfl) ?c1 B (Nat.le_refl _) W6 (Below.refl _ _) ?_))
            case c1 => first | exact rfl | exact ⟨rfl, rfl⟩ | exact ⟨rfl, rfl, rfl⟩ | exact ⟨rfl, rfl, rfl, rfl⟩ | exact ⟨rfl, rfl, rfl, rfl, rfl⟩ | exact ⟨rfl, rfl, rfl, rfl, rfl, rfl⟩ | (intro v hv; simp at hv; first | (rcases hv with rfl | rfl | rfl | rfl | rfl | rfl <;> rfl) | (rcases hv with rfl | rfl | rfl | rfl | rfl <;> rfl) | (rcases hv with rfl | rfl | rfl | rfl <;> rfl) | (rcases hv with rfl | rfl | rfl <;> rfl) | (rcases hv with rfl | rfl <;> rfl) | (subst hv; rfl))
            intro WF hb hbx hoth
            have HF := Lib.hid (And.intro (HK6.out.box HBb.out.2.2.2 hb hoth) (HH6.out.box hb hoth HBb.out.1.symm HBb.out.2.1 HBb.out.2.2.1))
            have HU := Lib.hid (PlH.und _ _ _ (und_box hb hoth (blk_lt HX5.out) HK5.out.size) HP.out)
            clear hb
            obtain ⟨q0, q1, q2, q3, q4, q5, qf, ql⟩ := cells6p (show WF.heap[B]? = some (.cells #[.int .i64 13, .slice none 0 0, .string xn, .slice xh.oa xp.length xh.cap, .string ⟨#[]⟩, .string ⟨#[]⟩] 103) from hbx)
            go_wp2
            exact bodyPost_ret (v := .agg #[.int .i64 13, .slice none 0 0, .string xn, .slice xh.oa xp.length xh.cap, .string ⟨#[]⟩, .string ⟨#[]⟩]) (by simp [results, Tryz.results339, go_sem, q0, q1, q2, q3, q4, q5]) rfl (RPost.done HF.out.1 (HQ.out.symm.trans (map_ok HR.out)) HJ6.out HF.out.2 ⟨⟨13, h0, [], ⟨xn, xh, xp⟩, nil5, nil5⟩, rfl, rfl, ⟨show I64 13 from ⟨by decide, by decide⟩, Row.nil _ _ _ _, HU.out⟩⟩)
          · have HS := Lib.hid hts
            clear hts
            go_upto_region 13 with (go_at_call 172; refine HTK.out.mono ?_; rintro e W5 ⟨-, h1⟩; obtain ⟨rfl, hb⟩ := h1 HS.out; have hk := Kb.of_below (b := b) hb; have HK5 := Lib.hid (HK4.out.trans hk); have HH5 := Lib.hid (HH4.out.under hb); have HJ5 := Lib.hid HJ4.out; have HX5 := Lib.hid (hk.kept HX4.out HBb.out.1); clear h1 hk hb HTK)
            have hQ := HQ.out
            rw [opt_no HH4.out HT5.out HS.out] at hQ
            replace HQ := Lib.hid hQ
            clear hQ HS
            obtain ⟨t6, ht6, hh, -⟩ := HH5.out.tok
            have htk := takes_any HH5.out ht6 wPoll (by decide)
            have HTK := Lib.hid htk
            have HT6 := Lib.hid ht6
            clear htk hh ht6
            by_cases hts : t6.text = wPoll
            · have HS := Lib.hid hts
              clear hts
              go_upto_region 14 with (go_at_call 172; refine HTK.out.mono ?_; rintro e W6 ⟨h1, -⟩; obtain ⟨rfl, hk, hrd⟩ := h1 HS.out; have HK6 := Lib.hid (HK5.out.trans hk); have HH6 := Lib.hid hrd; have HJ6 := Lib.hid (Nat.le_succ_of_le HJ5.out); have HX6 := Lib.hid (hk.kept HX5.out HBb.out.1); clear h1 hk hrd HTK)
              have hQ := HQ.out
              rw [opt_yes HH5.out HT6.out HS.out] at hQ
              replace HQ := Lib.hid hQ
              clear hQ HS
              have hc := r_alone HH6.out
              have HC := Lib.hid hc
              clear hc
              rcases hr : aloneR (ts.drop (i + 1)) with ⟨a7, l7⟩ | ⟨er, p⟩
              rotate_left
              · have HR := Lib.hid hr
                clear hr
                go_wp2_with (go_at_call 328; refine HC.out.mono ?_; rintro e W7 hp; obtain ⟨he, hk⟩ := hp.no HR.out; unfold faultE at he; subst he; have HK7 := Lib.hid (HK6.out.trans hk); clear hk hp HC)
                exact ⟨rfl, RPost.fault HK7.out (HQ.out.symm.trans (bind_no HR.out))⟩
              have HR := Lib.hid hr
              clear hr
              go_wp2_with
                (first
                  | (go_at_call 328; refine HC.out.mono ?_; rintro e W7 hp; obtain ⟨hk, j7, v7, rfl, hl, hj, hrd, hv⟩ := hp.ok HR.out; subst hl; obtain ⟨⟨xn, xh, xp⟩, rfl, rfl, hp⟩ := hv; simp only [plV, plC]; have HP := Lib.hid hp; clear hp; have HK7 := Lib.hid (HK6.out.trans hk); have HKK7 := Lib.hid hk; have HH7 := Lib.hid hrd; have HJ7 := Lib.hid (Nat.le_trans HJ6.out hj); have HX7 := Lib.hid (hk.kept HX6.out HBb.out.1); clear hk hp hrd hj HC)
                  | (refine wpList_store_box rfl 103 (.tmp 2) (.tmp 46) rfl B 0 rfl (.agg #[.int .i64 14, .slice none 0 0, .string xn, .slice xh.oa xp.length xh.cap, .string ⟨#[]⟩, .string ⟨#[]⟩]) rfl [.int .i64 14, .slice none 0 0, .string xn, .slice xh.oa xp.length xh.cap, .string ⟨#[]⟩, .string ⟨#[]⟩] rfl [.int .i64 0, .slice none 0 0, .string ⟨#[]⟩, .slice none 0 0, .string ⟨#[]⟩, .string ⟨#[]⟩] 103 HX7.out (Nat.le_refl _) (show (Tryz.prog.info? 103).map (·.size) = some 6 by kernel_rfl) ?c1 B (Nat.le_refl _) W7 (Below.refl _ _) ?_))
              case c1 => first | exact rfl | exact ⟨rfl, rfl⟩ | exact ⟨rfl, rfl, rfl⟩ | exact ⟨rfl, rfl, rfl, rfl⟩ | exact ⟨rfl, rfl, rfl, rfl, rfl⟩ | exact ⟨rfl, rfl, rfl, rfl, rfl, rfl⟩ | (intro v hv; simp at hv; first | (rcases hv with rfl | rfl | rfl | rfl | rfl | rfl <;> rfl) | (rcases hv with rfl | rfl | rfl | rfl | rfl <;> rfl) | (rcases hv with rfl | rfl | rfl | rfl <;> rfl) | (rcases hv with rfl | rfl | rfl <;> rfl) | (rcases hv with rfl | rfl <;> rfl) | (subst hv; rfl))
              intro WF hb hbx hoth
              have HF := Lib.hid (And.intro (HK7.out.box HBb.out.2.2.2 hb hoth) (HH7.out.box hb hoth HBb.out.1.symm HBb.out.2.1 HBb.out.2.2.1))
              have HU := Lib.hid (PlH.und _ _ _ (und_box hb hoth (blk_lt HX6.out) HK6.out.size) HP.out)
              clear hb
              obtain ⟨q0, q1, q2, q3, q4, q5, qf, ql⟩ := cells6p (show WF.heap[B]? = some (.cells #[.int .i64 14, .slice none 0 0, .string xn, .slice xh.oa xp.length xh.cap, .string ⟨#[]⟩, .string ⟨#[]⟩] 103) from hbx)
              go_wp2
              exact bodyPost_ret (v := .agg #[.int .i64 14, .slice none 0 0, .string xn, .slice xh.oa xp.length xh.cap, .string ⟨#[]⟩, .string ⟨#[]⟩]) (by simp [results, Tryz.results339, go_sem, q0, q1, q2, q3, q4, q5]) rfl (RPost.done HF.out.1 (HQ.out.symm.trans (map_ok HR.out)) HJ7.out HF.out.2 ⟨⟨14, h0, [], ⟨xn, xh, xp⟩, nil5, nil5⟩, rfl, rfl, ⟨show I64 14 from ⟨by decide, by decide⟩, Row.nil _ _ _ _, HU.out⟩⟩)
            · have HS := Lib.hid hts
              clear hts
              go_upto_region 15 with (go_at_call 172; refine HTK.out.mono ?_; rintro e W6 ⟨-, h1⟩; obtain ⟨rfl, hb⟩ := h1 HS.out; have hk := Kb.of_below (b := b) hb; have HK6 := Lib.hid (HK5.out.trans hk); have HH6 := Lib.hid (HH5.out.under hb); have HJ6 := Lib.hid HJ5.out; have HX6 := Lib.hid (hk.kept HX5.out HBb.out.1); clear h1 hk hb HTK)
              have hQ := HQ.out
              rw [opt_no HH5.out HT6.out HS.out] at hQ
              replace HQ := Lib.hid hQ
              clear hQ HS
              obtain ⟨t7, ht7, hh, -⟩ := HH6.out.tok
              have htk := takes_any HH6.out ht7 wWait (by decide)
              have HTK := Lib.hid htk
              have HT7 := Lib.hid ht7
              clear htk hh ht7
              by_cases hts : t7.text = wWait
              · have HS := Lib.hid hts
                clear hts
                go_upto_region 16 with (go_at_call 172; refine HTK.out.mono ?_; rintro e W7 ⟨h1, -⟩; obtain ⟨rfl, hk, hrd⟩ := h1 HS.out; have HK7 := Lib.hid (HK6.out.trans hk); have HH7 := Lib.hid hrd; have HJ7 := Lib.hid (Nat.le_succ_of_le HJ6.out); have HX7 := Lib.hid (hk.kept HX6.out HBb.out.1); clear h1 hk hrd HTK)
                have hQ := HQ.out
                rw [opt_yes HH6.out HT7.out HS.out] at hQ
                replace HQ := Lib.hid hQ
                clear hQ HS
                have hc := r_oper HH7.out
                have HC := Lib.hid hc
                clear hc
                rcases hr : operR (ts.drop (i + 1)) with ⟨a8, l8⟩ | ⟨er, p⟩
                rotate_left
                · have HR := Lib.hid hr
                  clear hr
                  go_wp2_with (go_at_call 327; refine HC.out.mono ?_; rintro e W8 hp; obtain ⟨he, hk⟩ := hp.no HR.out; unfold faultE at he; subst he; have HK8 := Lib.hid (HK7.out.trans hk); clear hk hp HC)
                  exact ⟨rfl, RPost.fault HK8.out (HQ.out.symm.trans (bind_no HR.out))⟩
                have HR := Lib.hid hr
                clear hr
                go_wp2_with
                  (first
                    | (go_at_call 327; refine HC.out.mono ?_; rintro e W8 hp; obtain ⟨hk, j8, v8, rfl, hl, hj, hrd, hv⟩ := hp.ok HR.out; subst hl; obtain ⟨⟨xb, xi, ⟨xn, xh, xp⟩⟩, rfl, rfl, hp⟩ := hv; simp only [opV, opC, plC, List.cons_append, List.nil_append]; have HP := Lib.hid hp; clear hp; have HK8 := Lib.hid (HK7.out.trans hk); have HKK8 := Lib.hid hk; have HH8 := Lib.hid hrd; have HJ8 := Lib.hid (Nat.le_trans HJ7.out hj); have HX8 := Lib.hid (hk.kept HX7.out HBb.out.1); clear hk hp hrd hj HC)
                    | (refine wpList_store_box rfl 103 (.tmp 2) (.tmp 53) rfl B 0 rfl (.agg #[.int .i64 15, .slice (some ⟨W8.heap.size, 0, none⟩) 1 1, .string ⟨#[]⟩, .slice none 0 0, .string ⟨#[]⟩, .string ⟨#[]⟩]) rfl [.int .i64 15, .slice (some ⟨W8.heap.size, 0, none⟩) 1 1, .string ⟨#[]⟩, .slice none 0 0, .string ⟨#[]⟩, .string ⟨#[]⟩] rfl [.int .i64 0, .slice none 0 0, .string ⟨#[]⟩, .slice none 0 0, .string ⟨#[]⟩, .string ⟨#[]⟩] 103 (keepB HX8.out (alloc_below W8 (.cells #[.bool xb, .int .i64 xi, .string xn, .slice xh.oa xp.length xh.cap] 105))) (Nat.le_refl _) (show (Tryz.prog.info? 103).map (·.size) = some 6 by kernel_rfl) ?c1 B (Nat.le_refl _) (W8.alloc (.cells #[.bool xb, .int .i64 xi, .string xn, .slice xh.oa xp.length xh.cap] 105)) (Below.refl _ _) ?_))
                case c1 => first | exact ⟨rfl, rfl, rfl, rfl, rfl, rfl⟩ | (intro v hv; simp at hv; rcases hv with rfl | rfl | rfl | rfl | rfl | rfl <;> rfl) | (intro v hv; simp at hv; rcases hv with rfl | rfl | rfl | rfl | rfl <;> rfl) | (intro v hv; simp at hv; rcases hv with rfl | rfl | rfl | rfl <;> rfl)
                intro WF hb hbx hoth
                have hne : W8.heap.size ≠ B := fun e => by have := blk_lt HX8.out; omega
                have HF := Lib.hid (And.intro ((HK8.out.alloc (.cells #[.bool xb, .int .i64 xi, .string xn, .slice xh.oa xp.length xh.cap] 105)).box HBb.out.2.2.2 hb hoth) ((HH8.out.under (alloc_below W8 (.cells #[.bool xb, .int .i64 xi, .string xn, .slice xh.oa xp.length xh.cap] 105))).box hb hoth HBb.out.1.symm HBb.out.2.1 HBb.out.2.2.1))
                have HZ := Lib.hid ((hoth _ hne).trans (heap_alloc_new W8 (.cells #[.bool xb, .int .i64 xi, .string xn, .slice xh.oa xp.length xh.cap] 105)))
                have HU := Lib.hid (OpH.und _ _ _ ((eb_und (B := W7.heap.size) (B' := W7.heap.size) (og := none) (og' := none) (alloc_below W8 (.cells #[.bool xb, .int .i64 xi, .string xn, .slice xh.oa xp.length xh.cap] 105)).size fun x hx h1 h2 => ⟨h1, h2, (alloc_below W8 (.cells #[.bool xb, .int .i64 xi, .string xn, .slice xh.oa xp.length xh.cap] 105)).block x hx⟩).trans (und_box (B' := w.heap.size) hb hoth (blk_lt HX7.out) HK7.out.size)) HP.out)
                clear hb hne
                obtain ⟨q0, q1, q2, q3, q4, q5, qf, ql⟩ := cells6p (show WF.heap[B]? = some (.cells #[.int .i64 15, .slice (some ⟨W8.heap.size, 0, none⟩) 1 1, .string ⟨#[]⟩, .slice none 0 0, .string ⟨#[]⟩, .string ⟨#[]⟩] 103) from hbx)
                have HS := Lib.hid HK8.out.size
                go_wp2
                refine bodyPost_ret (v := .agg #[.int .i64 15, .slice (some ⟨W8.heap.size, 0, none⟩) 1 1, .string ⟨#[]⟩, .slice none 0 0, .string ⟨#[]⟩, .string ⟨#[]⟩]) (by simp [results, Tryz.results339, go_sem, q0, q1, q2, q3, q4, q5]) rfl (RPost.done HF.out.1 (HQ.out.symm.trans (map_ok HR.out)) HJ8.out HF.out.2 ⟨⟨15, ⟨some ⟨W8.heap.size, 0, none⟩, 1⟩, [⟨xb, xi, ⟨xn, xh, xp⟩⟩], ⟨nil5, h0, []⟩, nil5, nil5⟩, rfl, rfl, ?_⟩)
                exact ⟨show I64 15 from ⟨by decide, by decide⟩, row_lit (xs := [(⟨xb, xi, ⟨xn, xh, xp⟩⟩ : Op5)]) HZ.out opC_len HS.out (show 1 ≤ maxLen by decide) (fun x hx => by
                  obtain rfl : x = (⟨xb, xi, ⟨xn, xh, xp⟩⟩ : Op5) := by simpa using hx
                  exact HU.out), Row.nil _ _ _ _⟩
              · have HS := Lib.hid hts
                clear hts
                go_upto_region 17 with (go_at_call 172; refine HTK.out.mono ?_; rintro e W7 ⟨-, h1⟩; obtain ⟨rfl, hb⟩ := h1 HS.out; have hk := Kb.of_below (b := b) hb; have HK7 := Lib.hid (HK6.out.trans hk); have HH7 := Lib.hid (HH6.out.under hb); have HJ7 := Lib.hid HJ6.out; have HX7 := Lib.hid (hk.kept HX6.out HBb.out.1); clear h1 hk hb HTK)
                have hQ := HQ.out
                rw [opt_no HH6.out HT7.out HS.out] at hQ
                replace HQ := Lib.hid hQ
                clear hQ HS
                obtain ⟨t8, ht8, hh8, -⟩ := HH7.out.tok
                have HN := Lib.hid (next_any HH7.out ht8)
                have HT8 := Lib.hid hh8
                clear ht8 hh8
                by_cases hts : greatT t8 = true
                · have HS := Lib.hid hts
                  clear hts
                  go_upto_region 18 with (first | (go_at_call 171; refine HN.out.mono ?_; rintro e V8 ⟨rfl, hb⟩; have HBa := Lib.hid hb; have HHa := Lib.hid (HH7.out.under hb); clear hb HN) | (go_at_call 283; refine (greatT_any t8 V8 HHa.out.vars).mono ?_; rintro e W8 ⟨rfl, hb0⟩; rw [HS.out]; have hb := HBa.out.trans (hb0.mono HBa.out.size); have hk := Kb.of_below (b := b) hb; have HK8 := Lib.hid (HK7.out.trans hk); have HH8 := Lib.hid (HH7.out.under hb); have HJ8 := Lib.hid HJ7.out; have HX8 := Lib.hid (hk.kept HX7.out HBb.out.1); clear hk hb hb0))
                  have hQ := HQ.out
                  rw [is_yes HT8.out HS.out] at hQ
                  replace HQ := Lib.hid hQ
                  clear hQ HS
                  have hc := HM.out _ _ _ _ _ _ _ HH8.out
                  have HC := Lib.hid hc
                  clear hc
                  rcases hr : madeR (ts.drop i) with ⟨a9, l9⟩ | ⟨er, p⟩
                  rotate_left
                  · have HR := Lib.hid hr
                    clear hr
                    go_wp2_with (go_at_call 342; refine HC.out.mono ?_; rintro e W9 hp; obtain ⟨he, hk⟩ := hp.no HR.out; unfold faultE at he; subst he; have HK9 := Lib.hid (HK8.out.trans hk); clear hk hp HC)
                    exact ⟨rfl, RPost.fault HK9.out (HQ.out.symm.trans HR.out)⟩
                  have HR := Lib.hid hr
                  clear hr
                  go_wp2_with
                    (first
                      | (go_at_call 342; refine HC.out.mono ?_; rintro e W9 hp; obtain ⟨hk, j9, v9, rfl, hl, hj, hrd, hv⟩ := hp.ok HR.out; subst hl; obtain ⟨⟨rk, rh, ro, ⟨rpn, rph, rpp⟩, rn, rv⟩, rfl, rfl, hp⟩ := hv; simp only [rvV, rvC, plC, List.cons_append, List.nil_append]; have HP := Lib.hid hp; clear hp; have HK9 := Lib.hid (HK8.out.trans hk); have HKK9 := Lib.hid hk; have HH9 := Lib.hid hrd; have HJ9 := Lib.hid (Nat.le_trans HJ8.out hj); have HX9 := Lib.hid (hk.kept HX8.out HBb.out.1); clear hk hp hrd hj HC)
                      | (refine wpList_store_box rfl 103 (.tmp 2) (.tmp 59) rfl B 0 rfl (.agg #[.int .i64 rk, .slice rh.oa ro.length rh.cap, .string rpn, .slice rph.oa rpp.length rph.cap, .string rn, .string rv]) rfl [.int .i64 rk, .slice rh.oa ro.length rh.cap, .string rpn, .slice rph.oa rpp.length rph.cap, .string rn, .string rv] rfl [.int .i64 0, .slice none 0 0, .string ⟨#[]⟩, .slice none 0 0, .string ⟨#[]⟩, .string ⟨#[]⟩] 103 HX9.out (Nat.le_refl _) (show (Tryz.prog.info? 103).map (·.size) = some 6 by kernel_rfl) ?c1 B (Nat.le_refl _) W9 (Below.refl _ _) ?_))
                  case c1 => first | exact rfl | exact ⟨rfl, rfl⟩ | exact ⟨rfl, rfl, rfl⟩ | exact ⟨rfl, rfl, rfl, rfl⟩ | exact ⟨rfl, rfl, rfl, rfl, rfl⟩ | exact ⟨rfl, rfl, rfl, rfl, rfl, rfl⟩ | (intro v hv; simp at hv; first | (rcases hv with rfl | rfl | rfl | rfl | rfl | rfl <;> rfl) | (rcases hv with rfl | rfl | rfl | rfl | rfl <;> rfl) | (rcases hv with rfl | rfl | rfl | rfl <;> rfl) | (rcases hv with rfl | rfl | rfl <;> rfl) | (rcases hv with rfl | rfl <;> rfl) | (subst hv; rfl))
                  intro WF hb hbx hoth
                  have HF := Lib.hid (And.intro (HK9.out.box HBb.out.2.2.2 hb hoth) (HH9.out.box hb hoth HBb.out.1.symm HBb.out.2.1 HBb.out.2.2.1))
                  have HU := Lib.hid (RvH.und _ _ _ (und_box hb hoth (blk_lt HX8.out) HK8.out.size) HP.out)
                  clear hb
                  obtain ⟨q0, q1, q2, q3, q4, q5, qf, ql⟩ := cells6p (show WF.heap[B]? = some (.cells #[.int .i64 rk, .slice rh.oa ro.length rh.cap, .string rpn, .slice rph.oa rpp.length rph.cap, .string rn, .string rv] 103) from hbx)
                  go_wp2
                  exact bodyPost_ret (v := .agg #[.int .i64 rk, .slice rh.oa ro.length rh.cap, .string rpn, .slice rph.oa rpp.length rph.cap, .string rn, .string rv]) (by simp [results, Tryz.results339, go_sem, q0, q1, q2, q3, q4, q5]) rfl (RPost.done HF.out.1 (HQ.out.symm.trans HR.out) HJ9.out HF.out.2 ⟨⟨rk, rh, ro, ⟨rpn, rph, rpp⟩, rn, rv⟩, rfl, rfl, HU.out⟩)
                · have HS := Lib.hid hts
                  clear hts
                  go_upto_region 19 with (first | (go_at_call 171; refine HN.out.mono ?_; rintro e V8 ⟨rfl, hb⟩; have HBa := Lib.hid hb; have HHa := Lib.hid (HH7.out.under hb); clear hb HN) | (go_at_call 283; refine (greatT_any t8 V8 HHa.out.vars).mono ?_; rintro e W8 ⟨rfl, hb0⟩; rw [(by simpa using HS.out : greatT t8 = false)]; have hb := HBa.out.trans (hb0.mono HBa.out.size); have hk := Kb.of_below (b := b) hb; have HK8 := Lib.hid (HK7.out.trans hk); have HH8 := Lib.hid (HH7.out.under hb); have HJ8 := Lib.hid HJ7.out; have HX8 := Lib.hid (hk.kept HX7.out HBb.out.1); clear hk hb hb0))
                  have hQ := HQ.out
                  rw [is_no HT8.out HS.out] at hQ
                  replace HQ := Lib.hid hQ
                  clear hQ HS
                  have hc := HRk.out _ _ _ _ _ _ _ HH8.out
                  have HC := Lib.hid hc
                  clear hc
                  rcases hr : reckonedR (ts.drop i) with ⟨a9, l9⟩ | ⟨er, p⟩
                  rotate_left
                  · have HR := Lib.hid hr
                    clear hr
                    go_wp2_with (go_at_call 343; refine HC.out.mono ?_; rintro e W9 hp; obtain ⟨he, hk⟩ := hp.no HR.out; unfold faultE at he; subst he; have HK9 := Lib.hid (HK8.out.trans hk); clear hk hp HC)
                    exact ⟨rfl, RPost.fault HK9.out (HQ.out.symm.trans HR.out)⟩
                  have HR := Lib.hid hr
                  clear hr
                  go_wp2_with
                    (first
                      | (go_at_call 343; refine HC.out.mono ?_; rintro e W9 hp; obtain ⟨hk, j9, v9, rfl, hl, hj, hrd, hv⟩ := hp.ok HR.out; subst hl; obtain ⟨⟨rk, rh, ro, ⟨rpn, rph, rpp⟩, rn, rv⟩, rfl, rfl, hp⟩ := hv; simp only [rvV, rvC, plC, List.cons_append, List.nil_append]; have HP := Lib.hid hp; clear hp; have HK9 := Lib.hid (HK8.out.trans hk); have HKK9 := Lib.hid hk; have HH9 := Lib.hid hrd; have HJ9 := Lib.hid (Nat.le_trans HJ8.out hj); have HX9 := Lib.hid (hk.kept HX8.out HBb.out.1); clear hk hp hrd hj HC)
                      | (refine wpList_store_box rfl 103 (.tmp 2) (.tmp 61) rfl B 0 rfl (.agg #[.int .i64 rk, .slice rh.oa ro.length rh.cap, .string rpn, .slice rph.oa rpp.length rph.cap, .string rn, .string rv]) rfl [.int .i64 rk, .slice rh.oa ro.length rh.cap, .string rpn, .slice rph.oa rpp.length rph.cap, .string rn, .string rv] rfl [.int .i64 0, .slice none 0 0, .string ⟨#[]⟩, .slice none 0 0, .string ⟨#[]⟩, .string ⟨#[]⟩] 103 HX9.out (Nat.le_refl _) (show (Tryz.prog.info? 103).map (·.size) = some 6 by kernel_rfl) ?c1 B (Nat.le_refl _) W9 (Below.refl _ _) ?_))
                  case c1 => first | exact rfl | exact ⟨rfl, rfl⟩ | exact ⟨rfl, rfl, rfl⟩ | exact ⟨rfl, rfl, rfl, rfl⟩ | exact ⟨rfl, rfl, rfl, rfl, rfl⟩ | exact ⟨rfl, rfl, rfl, rfl, rfl, rfl⟩ | (intro v hv; simp at hv; first | (rcases hv with rfl | rfl | rfl | rfl | rfl | rfl <;> rfl) | (rcases hv with rfl | rfl | rfl | rfl | rfl <;> rfl) | (rcases hv with rfl | rfl | rfl | rfl <;> rfl) | (rcases hv with rfl | rfl | rfl <;> rfl) | (rcases hv with rfl | rfl <;> rfl) | (subst hv; rfl))
                  intro WF hb hbx hoth
                  have HF := Lib.hid (And.intro (HK9.out.box HBb.out.2.2.2 hb hoth) (HH9.out.box hb hoth HBb.out.1.symm HBb.out.2.1 HBb.out.2.2.1))
                  have HU := Lib.hid (RvH.und _ _ _ (und_box hb hoth (blk_lt HX8.out) HK8.out.size) HP.out)
                  clear hb
                  obtain ⟨q0, q1, q2, q3, q4, q5, qf, ql⟩ := cells6p (show WF.heap[B]? = some (.cells #[.int .i64 rk, .slice rh.oa ro.length rh.cap, .string rpn, .slice rph.oa rpp.length rph.cap, .string rn, .string rv] 103) from hbx)
                  go_wp2
                  exact bodyPost_ret (v := .agg #[.int .i64 rk, .slice rh.oa ro.length rh.cap, .string rpn, .slice rph.oa rpp.length rph.cap, .string rn, .string rv]) (by simp [results, Tryz.results339, go_sem, q0, q1, q2, q3, q4, q5]) rfl (RPost.done HF.out.1 (HQ.out.symm.trans HR.out) HJ9.out HF.out.2 ⟨⟨rk, rh, ro, ⟨rpn, rph, rpp⟩, rn, rv⟩, rfl, rfl, HU.out⟩)
end Go.Proofs.YtggdpgaedmegbaaGreatDoor
