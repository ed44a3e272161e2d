/-
  Operands, arguments. Conditions: the reader lies in the heap.
-/
import Derived.Test.YtggdpgaedmegbaaGreatDoorJPPlace
import Derived.Test.YtggdpgaedmegbaaGreatDoorJPLst
namespace Go.Proofs.YtggdpgaedmegbaaGreatDoor
open Go.RowKit

theorem is_yes {α : Type} {f : Tok → Bool} {yes no : Rd α} {l : List Tok} {t : Tok} (h : hd l = t) (ht : f t = true) : isR f yes no l = yes l := by unfold isR; rw [h, if_pos ht]
theorem is_no {α : Type} {f : Tok → Bool} {yes no : Rd α} {l : List Tok} {t : Tok} (h : hd l = t) (ht : ¬ f t = true) : isR f yes no l = no l := by unfold isR; rw [h, if_neg ht]
theorem number_pos {l r : List Tok} {n : Int} (h : numberR l = .ok n r) : 0 ≤ n := by
  unfold numberR oneR mapR bindR pureR at h
  by_cases hq : numT (hd l) = true
  · simp [hq] at h
    omega
  · simp [hq] at h
set_option maxRecDepth 100000 in
set_option maxHeartbeats 4000000 in
theorem r_oper {w : World} {b g cap : Nat} {ts : List Tok} {i dp : Nat} (H : RdAt w b g cap ts i dp) :
    Calls Tryz.prog 327 #[.pointer (some ⟨b, 0, none⟩)] w (RPost w b g cap ts i dp (operR (ts.drop i)) VOp) := by
  obtain ⟨r, hQ⟩ : ∃ r, operR (ts.drop i) = r := ⟨_, rfl⟩
  rw [hQ]
  have HQ := Lib.hid hQ
  clear hQ
  have HGB := Lib.hid (And.intro H.toks.1 H.vars.size)
  have HBW := Lib.hid (show b < w.heap.size from (Array.getElem?_eq_some_iff.1 H.at_).1)
  have HJ0 := Lib.hid (Nat.le_refl i)
  obtain ⟨W0, hW⟩ : ∃ W0, W0 = w.alloc (.cells #[.bool false, .int .i64 0, .string ⟨#[]⟩, .slice none 0 0] 105) := ⟨_, rfl⟩
  have hbW : Below w.heap.size w W0 := by rw [hW]; exact alloc_below _ _
  have hx0 : W0.heap[w.heap.size]? = some (.cells #[.bool false, .int .i64 0, .string ⟨#[]⟩, .slice none 0 0] 105) := by rw [hW, heap_alloc_new]
  have HH0 := Lib.hid (H.under hbW)
  have HK0 := Lib.hid (Kb.of_below (b := b) hbW)
  obtain ⟨B, hB⟩ : ∃ B, B = w.heap.size := ⟨_, rfl⟩
  rw [← hB] at hx0
  have HX0 := Lib.hid hx0
  clear hbW hx0 H
  go_enter Tryz.func327, Tryz.ntmps327
  go_upto_region 1 with fail
  rw [← hW]
  simp only [← hB]
  clear hW
  have HBb := Lib.hid (show B ≠ b ∧ g ≠ B ∧ nG ≤ B ∧ w.heap.size ≤ B by have h1 := HBW.out; have h2 := HGB.out; rw [hB]; exact ⟨by omega, by omega, h2.2, Nat.le_refl _⟩)
  replace hB := Lib.hid hB
  obtain ⟨t1, ht1, hh, -⟩ := HH0.out.tok
  have htk := takes_any HH0.out ht1 wMinus (by decide)
  have HTK := Lib.hid htk
  have HT1 := Lib.hid ht1
  clear htk hh ht1
  by_cases hts : t1.text = wMinus
  · have HS := Lib.hid hts
    clear hts
    go_upto_region 2 with (go_at_call 172; refine HTK.out.mono ?_; rintro e W1 ⟨h1, -⟩; obtain ⟨rfl, hk, hrd⟩ := h1 HS.out; have HK1 := Lib.hid (HK0.out.trans hk); have HH1 := Lib.hid hrd; have HJ1 := Lib.hid (Nat.le_succ_of_le HJ0.out); have HX1 := Lib.hid (hk.kept HX0.out HBb.out.1); clear h1 hk hrd HTK)
    have hQ := HQ.out
    unfold operR at hQ
    rw [opt_yes HH0.out HT1.out HS.out] at hQ
    replace HQ := Lib.hid hQ
    clear hQ HS
    have hc := r_number HH1.out
    have HC := Lib.hid hc
    clear hc
    rcases hr : numberR (ts.drop (i + 1)) with ⟨a2, l2⟩ | ⟨er, p⟩
    rotate_left
    · have HR := Lib.hid hr
      clear hr
      go_wp2_with (go_at_call 337; refine HC.out.mono ?_; rintro e W2 hp; obtain ⟨he, hk⟩ := hp.no HR.out; unfold faultE at he; subst he; have HK2 := Lib.hid (HK1.out.trans hk); clear hk hp HC)
      exact ⟨rfl, RPost.fault HK2.out (HQ.out.symm.trans (bind_no HR.out))⟩
    have HR := Lib.hid hr
    clear hr
    go_wp2_with
      (first
        | (go_at_call 337; refine HC.out.mono ?_; rintro e W2 hp; obtain ⟨hk, j2, v2, rfl, hl, hj, hrd, hv⟩ := hp.ok HR.out; subst hl; obtain ⟨rfl, hI⟩ := hv; have HI := Lib.hid hI; have hp0 := number_pos HR.out; have hw : wrap64 (-a2) = -a2 := (by have h1 := HI.out.2; unfold wrap64; omega); have HP0 := Lib.hid hp0; clear hI hp0; have HK2 := Lib.hid (HK1.out.trans hk); have HKK2 := Lib.hid hk; have HH2 := Lib.hid hrd; have HJ2 := Lib.hid (Nat.le_trans HJ1.out hj); have HX2 := Lib.hid (hk.kept HX1.out HBb.out.1); clear hk hp hrd hj HC)
        | (refine wpList_store_box rfl 105 (.tmp 2) (.tmp 8) rfl B 0 rfl (.agg #[.bool true, .int .i64 (-a2), .string ⟨#[]⟩, .slice none 0 0]) rfl [.bool true, .int .i64 (-a2), .string ⟨#[]⟩, .slice none 0 0] rfl [.bool false, .int .i64 0, .string ⟨#[]⟩, .slice none 0 0] 105 HX2.out (Nat.le_refl _) (show (Tryz.prog.info? 105).map (·.size) = some 4 by kernel_rfl) ?c1 B (Nat.le_refl _) W2 (Below.refl _ _) ?_))
    case c1 => first | exact rfl | exact ⟨rfl, rfl⟩ | exact ⟨rfl, rfl, rfl⟩ | exact ⟨rfl, rfl, rfl, rfl⟩ | exact ⟨rfl, rfl, rfl, rfl, rfl⟩ | exact ⟨rfl, rfl, rfl, rfl, rfl, rfl⟩ | (intro v hv; simp at hv; first | (rcases hv with rfl | rfl | rfl | rfl | rfl | rfl <;> rfl) | (rcases hv with rfl | rfl | rfl | rfl | rfl <;> rfl) | (rcases hv with rfl | rfl | rfl | rfl <;> rfl) | (rcases hv with rfl | rfl | rfl <;> rfl) | (rcases hv with rfl | rfl <;> rfl) | (subst hv; rfl))
    intro WF hb hbx hoth
    have HF := Lib.hid (And.intro (HK2.out.box HBb.out.2.2.2 hb hoth) (HH2.out.box hb hoth HBb.out.1.symm HBb.out.2.1 HBb.out.2.2.1))
    have HPP := HP0.out
    clear hb
    obtain ⟨q0, q1, q2, q3, qf, ql⟩ := cells4 (show WF.heap[B]? = some (.cells #[.bool true, .int .i64 (-a2), .string ⟨#[]⟩, .slice none 0 0] 105) from hbx)
    go_wp2
    exact bodyPost_ret (v := .agg #[.bool true, .int .i64 (-a2), .string ⟨#[]⟩, .slice none 0 0]) (by simp [results, Tryz.results327, go_sem, q0, q1, q2, q3]) rfl (RPost.done HF.out.1 (HQ.out.symm.trans (map_ok HR.out)) HJ2.out HF.out.2 ⟨⟨true, -a2, ⟨nil5, h0, []⟩⟩, rfl, rfl, ⟨show I64 (-a2) from (by have h1 := HI.out; have h2 := HP0.out; unfold I64 at h1 ⊢; omega), Row.nil _ _ _ _⟩⟩)
  · have HS := Lib.hid hts
    clear hts
    go_upto_region 3 with (go_at_call 172; refine HTK.out.mono ?_; rintro e W1 ⟨-, h1⟩; obtain ⟨rfl, hb⟩ := h1 HS.out; have hk := Kb.of_below (b := b) hb; have HK1 := Lib.hid (HK0.out.trans hk); have HH1 := Lib.hid (HH0.out.under hb); have HJ1 := Lib.hid HJ0.out; have HX1 := Lib.hid (hk.kept HX0.out HBb.out.1); clear h1 hk hb HTK)
    have hQ := HQ.out
    unfold operR at hQ
    rw [opt_no HH0.out HT1.out HS.out] at hQ
    replace HQ := Lib.hid hQ
    clear hQ HS
    obtain ⟨t2, ht2, hh2, -⟩ := HH1.out.tok
    have HN := Lib.hid (next_any HH1.out ht2)
    have HT2 := Lib.hid hh2
    clear ht2 hh2
    by_cases hts : numT t2 = true
    · have HS := Lib.hid hts
      clear hts
      go_upto_region 4 with (first | (go_at_call 171; refine HN.out.mono ?_; rintro e V2 ⟨rfl, hb⟩; have HBa := Lib.hid hb; have HHa := Lib.hid (HH1.out.under hb); clear hb HN) | (go_at_call 338; refine (numT_any t2 V2).mono ?_; rintro e W2 ⟨rfl, hb0⟩; rw [HS.out]; have hb := HBa.out.trans (hb0.mono HBa.out.size); have hk := Kb.of_below (b := b) hb; have HK2 := Lib.hid (HK1.out.trans hk); have HH2 := Lib.hid (HH1.out.under hb); have HJ2 := Lib.hid HJ1.out; have HX2 := Lib.hid (hk.kept HX1.out HBb.out.1); clear hk hb hb0))
      have hQ := HQ.out
      rw [is_yes HT2.out HS.out] at hQ
      replace HQ := Lib.hid hQ
      clear hQ HS
      have hc := r_number HH2.out
      have HC := Lib.hid hc
      clear hc
      rcases hr : numberR (ts.drop i) with ⟨a3, l3⟩ | ⟨er, p⟩
      rotate_left
      · have HR := Lib.hid hr
        clear hr
        go_wp2_with (go_at_call 337; refine HC.out.mono ?_; rintro e W3 hp; obtain ⟨he, hk⟩ := hp.no HR.out; unfold faultE at he; subst he; have HK3 := Lib.hid (HK2.out.trans hk); clear hk hp HC)
        exact ⟨rfl, RPost.fault HK3.out (HQ.out.symm.trans (bind_no HR.out))⟩
      have HR := Lib.hid hr
      clear hr
      go_wp2_with
        (first
          | (go_at_call 337; refine HC.out.mono ?_; rintro e W3 hp; obtain ⟨hk, j3, v3, rfl, hl, hj, hrd, hv⟩ := hp.ok HR.out; subst hl; obtain ⟨rfl, hI⟩ := hv; have HI := Lib.hid hI; clear hI; have HK3 := Lib.hid (HK2.out.trans hk); have HKK3 := Lib.hid hk; have HH3 := Lib.hid hrd; have HJ3 := Lib.hid (Nat.le_trans HJ2.out hj); have HX3 := Lib.hid (hk.kept HX2.out HBb.out.1); clear hk hp hrd hj HC)
          | (refine wpList_store_box rfl 105 (.tmp 2) (.tmp 14) rfl B 0 rfl (.agg #[.bool true, .int .i64 a3, .string ⟨#[]⟩, .slice none 0 0]) rfl [.bool true, .int .i64 a3, .string ⟨#[]⟩, .slice none 0 0] rfl [.bool false, .int .i64 0, .string ⟨#[]⟩, .slice none 0 0] 105 HX3.out (Nat.le_refl _) (show (Tryz.prog.info? 105).map (·.size) = some 4 by kernel_rfl) ?c1 B (Nat.le_refl _) W3 (Below.refl _ _) ?_))
      case c1 => first | exact rfl | exact ⟨rfl, rfl⟩ | exact ⟨rfl, rfl, rfl⟩ | exact ⟨rfl, rfl, rfl, rfl⟩ | exact ⟨rfl, rfl, rfl, rfl, rfl⟩ | exact ⟨rfl, rfl, rfl, rfl, rfl, rfl⟩ | (intro v hv; simp at hv; first | (rcases hv with rfl | rfl | rfl | rfl | rfl | rfl <;> rfl) | (rcases hv with rfl | rfl | rfl | rfl | rfl <;> rfl) | (rcases hv with rfl | rfl | rfl | rfl <;> rfl) | (rcases hv with rfl | rfl | rfl <;> rfl) | (rcases hv with rfl | rfl <;> rfl) | (subst hv; rfl))
      intro WF hb hbx hoth
      have HF := Lib.hid (And.intro (HK3.out.box HBb.out.2.2.2 hb hoth) (HH3.out.box hb hoth HBb.out.1.symm HBb.out.2.1 HBb.out.2.2.1))
      clear hb
      obtain ⟨q0, q1, q2, q3, qf, ql⟩ := cells4 (show WF.heap[B]? = some (.cells #[.bool true, .int .i64 a3, .string ⟨#[]⟩, .slice none 0 0] 105) from hbx)
      go_wp2
      exact bodyPost_ret (v := .agg #[.bool true, .int .i64 a3, .string ⟨#[]⟩, .slice none 0 0]) (by simp [results, Tryz.results327, go_sem, q0, q1, q2, q3]) rfl (RPost.done HF.out.1 (HQ.out.symm.trans (map_ok HR.out)) HJ3.out HF.out.2 ⟨⟨true, a3, ⟨nil5, h0, []⟩⟩, rfl, rfl, ⟨HI.out, Row.nil _ _ _ _⟩⟩)
    · have HS := Lib.hid hts
      clear hts
      go_upto_region 5 with (first | (go_at_call 171; refine HN.out.mono ?_; rintro e V2 ⟨rfl, hb⟩; have HBa := Lib.hid hb; have HHa := Lib.hid (HH1.out.under hb); clear hb HN) | (go_at_call 338; refine (numT_any t2 V2).mono ?_; rintro e W2 ⟨rfl, hb0⟩; rw [(by simpa using HS.out : numT t2 = false)]; have hb := HBa.out.trans (hb0.mono HBa.out.size); have hk := Kb.of_below (b := b) hb; have HK2 := Lib.hid (HK1.out.trans hk); have HH2 := Lib.hid (HH1.out.under hb); have HJ2 := Lib.hid HJ1.out; have HX2 := Lib.hid (hk.kept HX1.out HBb.out.1); clear hk hb hb0))
      have hQ := HQ.out
      rw [is_no HT2.out HS.out] at hQ
      replace HQ := Lib.hid hQ
      clear hQ HS
      have hc := r_place HH2.out
      have HC := Lib.hid hc
      clear hc
      rcases hr : placeR (ts.drop i) with ⟨a3, l3⟩ | ⟨er, p⟩
      rotate_left
      · have HR := Lib.hid hr
        clear hr
        go_wp2_with (go_at_call 332; refine HC.out.mono ?_; rintro e W3 hp; obtain ⟨he, hk⟩ := hp.no HR.out; unfold faultE at he; subst he; have HK3 := Lib.hid (HK2.out.trans hk); clear hk hp HC)
        exact ⟨rfl, RPost.fault HK3.out (HQ.out.symm.trans (bind_no HR.out))⟩
      have HR := Lib.hid hr
      clear hr
      go_wp2_with
        (first
          | (go_at_call 332; refine HC.out.mono ?_; rintro e W3 hp; obtain ⟨hk, j3, v3, rfl, hl, hj, hrd, hv⟩ := hp.ok HR.out; subst hl; obtain ⟨⟨xn, xh, xp⟩, rfl, rfl, hp⟩ := hv; simp only [plV, plC]; have HP := Lib.hid hp; clear hp; have HK3 := Lib.hid (HK2.out.trans hk); have HKK3 := Lib.hid hk; have HH3 := Lib.hid hrd; have HJ3 := Lib.hid (Nat.le_trans HJ2.out hj); have HX3 := Lib.hid (hk.kept HX2.out HBb.out.1); clear hk hp hrd hj HC)
          | (refine wpList_store_box rfl 105 (.tmp 2) (.tmp 17) rfl B 0 rfl (.agg #[.bool false, .int .i64 0, .string xn, .slice xh.oa xp.length xh.cap]) rfl [.bool false, .int .i64 0, .string xn, .slice xh.oa xp.length xh.cap] rfl [.bool false, .int .i64 0, .string ⟨#[]⟩, .slice none 0 0] 105 HX3.out (Nat.le_refl _) (show (Tryz.prog.info? 105).map (·.size) = some 4 by kernel_rfl) ?c1 B (Nat.le_refl _) W3 (Below.refl _ _) ?_))
      case c1 => first | exact rfl | exact ⟨rfl, rfl⟩ | exact ⟨rfl, rfl, rfl⟩ | exact ⟨rfl, rfl, rfl, rfl⟩ | exact ⟨rfl, rfl, rfl, rfl, rfl⟩ | exact ⟨rfl, rfl, rfl, rfl, rfl, rfl⟩ | (intro v hv; simp at hv; first | (rcases hv with rfl | rfl | rfl | rfl | rfl | rfl <;> rfl) | (rcases hv with rfl | rfl | rfl | rfl | rfl <;> rfl) | (rcases hv with rfl | rfl | rfl | rfl <;> rfl) | (rcases hv with rfl | rfl | rfl <;> rfl) | (rcases hv with rfl | rfl <;> rfl) | (subst hv; rfl))
      intro WF hb hbx hoth
      have HF := Lib.hid (And.intro (HK3.out.box HBb.out.2.2.2 hb hoth) (HH3.out.box hb hoth HBb.out.1.symm HBb.out.2.1 HBb.out.2.2.1))
      have HU := Lib.hid (PlH.und _ _ _ (und_box hb hoth (blk_lt HX2.out) HK2.out.size) HP.out)
      clear hb
      obtain ⟨q0, q1, q2, q3, qf, ql⟩ := cells4 (show WF.heap[B]? = some (.cells #[.bool false, .int .i64 0, .string xn, .slice xh.oa xp.length xh.cap] 105) from hbx)
      go_wp2
      exact bodyPost_ret (v := .agg #[.bool false, .int .i64 0, .string xn, .slice xh.oa xp.length xh.cap]) (by simp [results, Tryz.results327, go_sem, q0, q1, q2, q3]) rfl (RPost.done HF.out.1 (HQ.out.symm.trans (map_ok HR.out)) HJ3.out HF.out.2 ⟨⟨false, 0, ⟨xn, xh, xp⟩⟩, rfl, rfl, ⟨show I64 0 from ⟨by decide, by decide⟩, HU.out⟩⟩)
set_option maxRecDepth 100000 in
set_option maxHeartbeats 4000000 in
theorem r_args {w : World} {b g cap : Nat} {ts : List Tok} {i dp : Nat} (H : RdAt w b g cap ts i dp) :
    Calls Tryz.prog 341 #[.pointer (some ⟨b, 0, none⟩)] w (RPost w b g cap ts i dp (argsR (ts.drop i)) (VRow 4 opC erOp OpH)) := by
  obtain ⟨r, hQ⟩ : ∃ r, argsR (ts.drop i) = r := ⟨_, rfl⟩
  rw [hQ]
  have HQ := Lib.hid hQ
  clear hQ
  have HGB := Lib.hid (And.intro H.toks.1 H.vars.size)
  have HBW := Lib.hid (show b < w.heap.size from (Array.getElem?_eq_some_iff.1 H.at_).1)
  have HJ0 := Lib.hid (Nat.le_refl i)
  have HH0 := Lib.hid H
  have HK0 := Lib.hid (Kb.refl b w)
  clear H
  go_enter Tryz.func341, Tryz.ntmps341
  go_upto_region 1 with fail
  have hc := need_any HH0.out wLP (by decide)
  have HC := Lib.hid hc
  clear hc
  rcases hr : needR wLP (ts.drop i) with ⟨a1, l1⟩ | ⟨er, p⟩
  rotate_left
  · have HR := Lib.hid hr
    clear hr
    go_wp2_with (go_at_call 237; refine HC.out.mono ?_; rintro e W1 hp; obtain ⟨he, hk⟩ := hp.no HR.out; unfold faultE at he; subst he; have HK1 := Lib.hid (HK0.out.trans hk); clear hk hp HC)
    exact ⟨rfl, RPost.fault HK1.out (HQ.out.symm.trans (bind_no HR.out))⟩
  have HR := Lib.hid hr
  clear hr
  go_upto_region 2 with (go_at_call 237; refine HC.out.mono ?_; rintro e W1 hp; obtain ⟨hk, j1, v1, rfl, hl, hj, hrd, hv⟩ := hp.ok HR.out; subst hl; unfold VUnit at hv; subst hv; have HK1 := Lib.hid (HK0.out.trans hk); have HKK1 := Lib.hid hk; have HH1 := Lib.hid hrd; have HJ1 := Lib.hid (Nat.le_trans HJ0.out hj); clear hk hp hrd hj HC)
  have hQ := HQ.out
  unfold argsR at hQ
  rw [bind_ok HR.out] at hQ
  replace HQ := Lib.hid hQ
  clear hQ HR
  have hmf : ∀ (fn : Fn) (first cap : Array Value) (w : World), (Instr.makeFunc fn first cap).run Tryz.prog w = .ok (.func fn first cap) w := fun _ _ _ _ => rfl
  have hc := list_Oper HH1.out wRP (by decide) operR ru_oper.con (fun w i H => r_oper H)
  have HC := Lib.hid hc
  clear hc
  rcases hr : rowL wRP (sepR operR) (ts.drop j1) with ⟨a2, l2⟩ | ⟨er, p⟩
  rotate_left
  · have HR := Lib.hid hr
    clear hr
    go_wp2_with (go_at_call 344; refine HC.out.mono ?_; rintro e W2 hp; obtain ⟨he, hk⟩ := hp.no HR.out; unfold faultE at he; subst he; have HK2 := Lib.hid (HK1.out.trans hk); clear hk hp HC)
    exact ⟨rfl, RPost.fault HK2.out (HQ.out.symm.trans HR.out)⟩
  have HR := Lib.hid hr
  clear hr
  go_wp2_with (go_at_call 344; refine HC.out.mono ?_; rintro e W2 hp; obtain ⟨hk, j2, v2, rfl, hl, hj, hrd, hv⟩ := hp.ok HR.out; subst hl; skip; have HK2 := Lib.hid (HK1.out.trans hk); have HKK2 := Lib.hid hk; have HH2 := Lib.hid hrd; have HJ2 := Lib.hid (Nat.le_trans HJ1.out hj); clear hk hp hrd hj HC)
  exact bodyPost_ret (v := v2) (by simp [results, Tryz.results341, go_sem]) rfl (RPost.done HK2.out (HQ.out.symm.trans HR.out) HJ2.out HH2.out (hv.keep OpH.und (Kb.refl b _) (Nat.lt_of_lt_of_le HBW.out HK1.out.size) HK1.out.size))
end Go.Proofs.YtggdpgaedmegbaaGreatDoor
