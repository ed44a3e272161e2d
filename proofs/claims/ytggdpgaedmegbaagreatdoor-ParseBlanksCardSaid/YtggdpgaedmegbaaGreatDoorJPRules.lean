/-
  Rules of the reader: names, numbers. Conditions: the reader lies in the heap.
-/
import Derived.Test.YtggdpgaedmegbaaGreatDoorJPBox
namespace Go.Proofs.YtggdpgaedmegbaaGreatDoor
open Go.RowKit

theorem enters_small (args : Array Value) (w : World) : (callFunc 288 args).run Tryz.prog w = .ok (.enter 288 args) w := Go.Proofs.enters_of Tryz.func288 (by kernel_rfl) rfl args w
theorem k_small (t : Tok) (h : smallT t = true) : t.k ≠ 0 := fun e => by simp [smallT, freeT, e] at h
set_option maxRecDepth 100000 in
set_option maxHeartbeats 4000000 in
theorem r_small {w : World} {b g cap : Nat} {ts : List Tok} {i dp : Nat} (H : RdAt w b g cap ts i dp) :
    Calls Tryz.prog 240 #[.pointer (some ⟨b, 0, none⟩)] w (RPost w b g cap ts i dp (smallR (ts.drop i)) VStr) := by
  have hfd := tok_text
  obtain ⟨r, hQ⟩ : ∃ r, smallR (ts.drop i) = r := ⟨_, rfl⟩
  rw [hQ]
  have HQ := Lib.hid hQ
  clear hQ
  have HGB := Lib.hid (And.intro H.toks.1 H.vars.size)
  have HBW := Lib.hid (show b < w.heap.size from (Array.getElem?_eq_some_iff.1 H.at_).1)
  have HJ0 := Lib.hid (Nat.le_refl i)
  have HH0 := Lib.hid H
  have HK0 := Lib.hid (Kb.refl b w)
  clear H
  go_enter Tryz.func240, Tryz.ntmps240
  go_upto_region 1 with fail
  have hc := one_any HH0.out 288 smallT enters_small (fun t w hV => smallT_any t w hV) k_small
  have HC := Lib.hid hc
  clear hc
  rcases hr : oneR smallT (ts.drop i) with ⟨a1, l1⟩ | ⟨er, p⟩
  rotate_left
  · have HR := Lib.hid hr
    clear hr
    go_wp2_with (go_at_call 282; refine HC.out.mono ?_; rintro e W1 hp; obtain ⟨he, hk⟩ := hp.no HR.out; unfold faultE at he; subst he; have HK1 := Lib.hid (HK0.out.trans hk); clear hk hp HC)
    exact ⟨rfl, RPost.fault HK1.out (HQ.out.symm.trans (bind_no HR.out))⟩
  have HR := Lib.hid hr
  clear hr
  go_wp2_with (go_at_call 282; refine HC.out.mono ?_; rintro e W1 hp; obtain ⟨hk, j1, v1, rfl, hl, hj, hrd, hv⟩ := hp.ok HR.out; subst hl; unfold VTok at hv; simp only [tokV] at hv; subst hv; have HK1 := Lib.hid (HK0.out.trans hk); have HKK1 := Lib.hid hk; have HH1 := Lib.hid hrd; have HJ1 := Lib.hid (Nat.le_trans HJ0.out hj); clear hk hp hrd hj HC)
  go_ret
  exact RPost.done HK1.out (HQ.out.symm.trans (map_ok HR.out)) HJ1.out HH1.out rfl
theorem enters_great (args : Array Value) (w : World) : (callFunc 283 args).run Tryz.prog w = .ok (.enter 283 args) w := Go.Proofs.enters_of Tryz.func283 (by kernel_rfl) rfl args w
theorem k_great (t : Tok) (h : greatT t = true) : t.k ≠ 0 := fun e => by simp [greatT, freeT, e] at h
set_option maxRecDepth 100000 in
set_option maxHeartbeats 4000000 in
theorem r_great {w : World} {b g cap : Nat} {ts : List Tok} {i dp : Nat} (H : RdAt w b g cap ts i dp) :
    Calls Tryz.prog 236 #[.pointer (some ⟨b, 0, none⟩)] w (RPost w b g cap ts i dp (greatR (ts.drop i)) VStr) := by
  have hfd := tok_text
  obtain ⟨r, hQ⟩ : ∃ r, greatR (ts.drop i) = r := ⟨_, rfl⟩
  rw [hQ]
  have HQ := Lib.hid hQ
  clear hQ
  have HGB := Lib.hid (And.intro H.toks.1 H.vars.size)
  have HBW := Lib.hid (show b < w.heap.size from (Array.getElem?_eq_some_iff.1 H.at_).1)
  have HJ0 := Lib.hid (Nat.le_refl i)
  have HH0 := Lib.hid H
  have HK0 := Lib.hid (Kb.refl b w)
  clear H
  go_enter Tryz.func236, Tryz.ntmps236
  go_upto_region 1 with fail
  have hc := one_any HH0.out 283 greatT enters_great (fun t w hV => greatT_any t w hV) k_great
  have HC := Lib.hid hc
  clear hc
  rcases hr : oneR greatT (ts.drop i) with ⟨a1, l1⟩ | ⟨er, p⟩
  rotate_left
  · have HR := Lib.hid hr
    clear hr
    go_wp2_with (go_at_call 282; refine HC.out.mono ?_; rintro e W1 hp; obtain ⟨he, hk⟩ := hp.no HR.out; unfold faultE at he; subst he; have HK1 := Lib.hid (HK0.out.trans hk); clear hk hp HC)
    exact ⟨rfl, RPost.fault HK1.out (HQ.out.symm.trans (bind_no HR.out))⟩
  have HR := Lib.hid hr
  clear hr
  go_wp2_with (go_at_call 282; refine HC.out.mono ?_; rintro e W1 hp; obtain ⟨hk, j1, v1, rfl, hl, hj, hrd, hv⟩ := hp.ok HR.out; subst hl; unfold VTok at hv; simp only [tokV] at hv; subst hv; have HK1 := Lib.hid (HK0.out.trans hk); have HKK1 := Lib.hid hk; have HH1 := Lib.hid hrd; have HJ1 := Lib.hid (Nat.le_trans HJ0.out hj); clear hk hp hrd hj HC)
  go_ret
  exact RPost.done HK1.out (HQ.out.symm.trans (map_ok HR.out)) HJ1.out HH1.out rfl
theorem enters_number (args : Array Value) (w : World) : (callFunc 338 args).run Tryz.prog w = .ok (.enter 338 args) w := Go.Proofs.enters_of Tryz.func338 (by kernel_rfl) rfl args w
theorem k_number (t : Tok) (h : numT t = true) : t.k ≠ 0 := fun e => by simp [numT, e] at h
set_option maxRecDepth 100000 in
set_option maxHeartbeats 4000000 in
theorem r_number {w : World} {b g cap : Nat} {ts : List Tok} {i dp : Nat} (H : RdAt w b g cap ts i dp) :
    Calls Tryz.prog 337 #[.pointer (some ⟨b, 0, none⟩)] w (RPost w b g cap ts i dp (numberR (ts.drop i)) VInt) := by
  have hfd := tok_n
  obtain ⟨r, hQ⟩ : ∃ r, numberR (ts.drop i) = r := ⟨_, rfl⟩
  rw [hQ]
  have HQ := Lib.hid hQ
  clear hQ
  have HGB := Lib.hid (And.intro H.toks.1 H.vars.size)
  have HBW := Lib.hid (show b < w.heap.size from (Array.getElem?_eq_some_iff.1 H.at_).1)
  have HJ0 := Lib.hid (Nat.le_refl i)
  have HH0 := Lib.hid H
  have HK0 := Lib.hid (Kb.refl b w)
  clear H
  go_enter Tryz.func337, Tryz.ntmps337
  go_upto_region 1 with fail
  have hc := one_any HH0.out 338 numT enters_number (fun t w _ => numT_any t w) k_number
  have HC := Lib.hid hc
  clear hc
  rcases hr : oneR numT (ts.drop i) with ⟨a1, l1⟩ | ⟨er, p⟩
  rotate_left
  · have HR := Lib.hid hr
    clear hr
    go_wp2_with (go_at_call 282; refine HC.out.mono ?_; rintro e W1 hp; obtain ⟨he, hk⟩ := hp.no HR.out; unfold faultE at he; subst he; have HK1 := Lib.hid (HK0.out.trans hk); clear hk hp HC)
    exact ⟨rfl, RPost.fault HK1.out (HQ.out.symm.trans (bind_no HR.out))⟩
  have HR := Lib.hid hr
  clear hr
  go_wp2_with (go_at_call 282; refine HC.out.mono ?_; rintro e W1 hp; obtain ⟨hk, j1, v1, rfl, hl, hj, hrd, hv⟩ := hp.ok HR.out; subst hl; unfold VTok at hv; simp only [tokV] at hv; subst hv; have HK1 := Lib.hid (HK0.out.trans hk); have HKK1 := Lib.hid hk; have HH1 := Lib.hid hrd; have HJ1 := Lib.hid (Nat.le_trans HJ0.out hj); clear hk hp hrd hj HC)
  go_ret
  have hn1 : I64 (a1.n : Int) := by
    have h1 : a1.n < 9223372036854775808 := by
      have h2 := HR.out
      obtain ⟨t, ht, hh, hm⟩ := HH0.out.tok
      unfold oneR at h2
      rw [hh] at h2
      split at h2
      · injection h2 with h3 _
        rw [← h3]
        exact HH0.out.ok.n _ hm
      · cases h2
    unfold I64
    omega
  exact RPost.done HK1.out (HQ.out.symm.trans (map_ok HR.out)) HJ1.out HH1.out ⟨rfl, hn1⟩
set_option maxRecDepth 100000 in
set_option maxHeartbeats 4000000 in
theorem r_alone {w : World} {b g cap : Nat} {ts : List Tok} {i dp : Nat} (H : RdAt w b g cap ts i dp) :
    Calls Tryz.prog 328 #[.pointer (some ⟨b, 0, none⟩)] w (RPost w b g cap ts i dp (aloneR (ts.drop i)) VPl) := by
  obtain ⟨r, hQ⟩ : ∃ r, aloneR (ts.drop i) = r := ⟨_, rfl⟩
  rw [hQ]
  have HQ := Lib.hid hQ
  clear hQ
  have HGB := Lib.hid (And.intro H.toks.1 H.vars.size)
  have HBW := Lib.hid (show b < w.heap.size from (Array.getElem?_eq_some_iff.1 H.at_).1)
  have HJ0 := Lib.hid (Nat.le_refl i)
  obtain ⟨W0, hW⟩ : ∃ W0, W0 = w.alloc (.cells #[.string ⟨#[]⟩, .slice none 0 0] 100) := ⟨_, rfl⟩
  have hbW : Below w.heap.size w W0 := by rw [hW]; exact alloc_below _ _
  have hx0 : W0.heap[w.heap.size]? = some (.cells #[.string ⟨#[]⟩, .slice none 0 0] 100) := by rw [hW, heap_alloc_new]
  have HH0 := Lib.hid (H.under hbW)
  have HK0 := Lib.hid (Kb.of_below (b := b) hbW)
  obtain ⟨B, hB⟩ : ∃ B, B = w.heap.size := ⟨_, rfl⟩
  rw [← hB] at hx0
  have HX0 := Lib.hid hx0
  clear hbW hx0 H
  go_enter Tryz.func328, Tryz.ntmps328
  go_upto_region 1 with fail
  rw [← hW]
  simp only [← hB]
  clear hW
  have HBb := Lib.hid (show B ≠ b ∧ g ≠ B ∧ nG ≤ B ∧ w.heap.size ≤ B by have h1 := HBW.out; have h2 := HGB.out; rw [hB]; exact ⟨by omega, by omega, h2.2, Nat.le_refl _⟩)
  replace hB := Lib.hid hB
  have hc := r_small HH0.out
  have HC := Lib.hid hc
  clear hc
  rcases hr : smallR (ts.drop i) with ⟨a1, l1⟩ | ⟨er, p⟩
  rotate_left
  · have HR := Lib.hid hr
    clear hr
    go_wp2_with (go_at_call 240; refine HC.out.mono ?_; rintro e W1 hp; obtain ⟨he, hk⟩ := hp.no HR.out; unfold faultE at he; subst he; have HK1 := Lib.hid (HK0.out.trans hk); clear hk hp HC)
    exact ⟨rfl, RPost.fault HK1.out (HQ.out.symm.trans (bind_no HR.out))⟩
  have HR := Lib.hid hr
  clear hr
  go_wp2_with
    (first
      | (go_at_call 240; refine HC.out.mono ?_; rintro e W1 hp; obtain ⟨hk, j1, v1, rfl, hl, hj, hrd, hv⟩ := hp.ok HR.out; subst hl; unfold VStr at hv; subst hv; have HK1 := Lib.hid (HK0.out.trans hk); have HKK1 := Lib.hid hk; have HH1 := Lib.hid hrd; have HJ1 := Lib.hid (Nat.le_trans HJ0.out hj); have HX1 := Lib.hid (hk.kept HX0.out HBb.out.1); clear hk hp hrd hj HC)
      | (refine wpList_store_box rfl 100 (.tmp 2) (.tmp 5) rfl B 0 rfl (.agg #[.string a1, .slice none 0 0]) rfl [.string a1, .slice none 0 0] rfl [.string ⟨#[]⟩, .slice none 0 0] 100 HX1.out (Nat.le_refl _) (show (Tryz.prog.info? 100).map (·.size) = some 2 by kernel_rfl) ?c1 B (Nat.le_refl _) W1 (Below.refl _ _) ?_))
  case c1 => intro v hv; simp at hv; first | (rcases hv with rfl | rfl | rfl | rfl | rfl | rfl <;> rfl) | (rcases hv with rfl | rfl | rfl | rfl | rfl <;> rfl) | (rcases hv with rfl | rfl | rfl | rfl <;> rfl) | (rcases hv with rfl | rfl | rfl <;> rfl) | (rcases hv with rfl | rfl <;> rfl) | (subst hv; rfl)
  intro WF hb hbx hoth
  have HF := Lib.hid (And.intro (HK1.out.box HBb.out.2.2.2 hb hoth) (HH1.out.box hb hoth HBb.out.1.symm HBb.out.2.1 HBb.out.2.2.1))
  clear hb
  obtain ⟨q0, q1, qf, ql⟩ := cells2p (show WF.heap[B]? = some (.cells #[.string a1, .slice none 0 0] 100) from hbx)
  go_wp2
  exact bodyPost_ret (v := .agg #[.string a1, .slice none 0 0]) (by simp [results, Tryz.results328, go_sem, q0, q1]) rfl (RPost.done HF.out.1 (HQ.out.symm.trans (map_ok HR.out)) HJ1.out HF.out.2 ⟨⟨a1, h0, []⟩, rfl, rfl, Row.nil _ _ _ _⟩)
/-- a step is one string -/
def VSp (_ : World) (_ : Nat) (v : Value) (s : ByteArray) : Prop := v = .agg #[.string s]
set_option maxRecDepth 100000 in
set_option maxHeartbeats 4000000 in
theorem r_step {w : World} {b g cap : Nat} {ts : List Tok} {i dp : Nat} (H : RdAt w b g cap ts i dp) :
    Calls Tryz.prog 340 #[.pointer (some ⟨b, 0, none⟩)] w (RPost w b g cap ts i dp (stepR (ts.drop i)) VSp) := by
  obtain ⟨r, hQ⟩ : ∃ r, stepR (ts.drop i) = r := ⟨_, rfl⟩
  rw [hQ]
  have HQ := Lib.hid hQ
  clear hQ
  have HGB := Lib.hid (And.intro H.toks.1 H.vars.size)
  have HBW := Lib.hid (show b < w.heap.size from (Array.getElem?_eq_some_iff.1 H.at_).1)
  have HJ0 := Lib.hid (Nat.le_refl i)
  obtain ⟨W0, hW⟩ : ∃ W0, W0 = w.alloc (.cells #[.string ⟨#[]⟩] 332) := ⟨_, rfl⟩
  have hbW : Below w.heap.size w W0 := by rw [hW]; exact alloc_below _ _
  have hx0 : W0.heap[w.heap.size]? = some (.cells #[.string ⟨#[]⟩] 332) := by rw [hW, heap_alloc_new]
  have HH0 := Lib.hid (H.under hbW)
  have HK0 := Lib.hid (Kb.of_below (b := b) hbW)
  obtain ⟨B, hB⟩ : ∃ B, B = w.heap.size := ⟨_, rfl⟩
  rw [← hB] at hx0
  have HX0 := Lib.hid hx0
  clear hbW hx0 H
  go_enter Tryz.func340, Tryz.ntmps340
  go_upto_region 1 with fail
  rw [← hW]
  simp only [← hB]
  clear hW
  have HBb := Lib.hid (show B ≠ b ∧ g ≠ B ∧ nG ≤ B ∧ w.heap.size ≤ B by have h1 := HBW.out; have h2 := HGB.out; rw [hB]; exact ⟨by omega, by omega, h2.2, Nat.le_refl _⟩)
  replace hB := Lib.hid hB
  obtain ⟨t1, ht1, hh, -⟩ := HH0.out.tok
  have htk := takes_any HH0.out ht1 wStar (by decide)
  have HTK := Lib.hid htk
  have HT1 := Lib.hid ht1
  clear htk hh ht1
  by_cases hts : t1.text = wStar
  · have HS := Lib.hid hts
    clear hts
    go_upto_region 2 with (go_at_call 172; refine HTK.out.mono ?_; rintro e W1 ⟨h1, -⟩; obtain ⟨rfl, hk, hrd⟩ := h1 HS.out; have HK1 := Lib.hid (HK0.out.trans hk); have HH1 := Lib.hid hrd; have HJ1 := Lib.hid (Nat.le_succ_of_le HJ0.out); have HX1 := Lib.hid (hk.kept HX0.out HBb.out.1); clear h1 hk hrd HTK)
    have hQ := HQ.out
    unfold stepR at hQ
    rw [opt_yes HH0.out HT1.out HS.out] at hQ
    replace HQ := Lib.hid hQ
    clear hQ HS
    go_wp2_with (refine wpList_store_box rfl 332 (.tmp 2) (.tmp 5) rfl B 0 rfl (.agg #[.string ⟨#[]⟩]) rfl [.string ⟨#[]⟩] rfl [.string ⟨#[]⟩] 332 HX1.out (Nat.le_refl _) (show (Tryz.prog.info? 332).map (·.size) = some 1 by kernel_rfl) ?c1 B (Nat.le_refl _) W1 (Below.refl _ _) ?_)
    case c1 => intro v hv; simp at hv; first | (rcases hv with rfl | rfl | rfl | rfl | rfl | rfl <;> rfl) | (rcases hv with rfl | rfl | rfl | rfl | rfl <;> rfl) | (rcases hv with rfl | rfl | rfl | rfl <;> rfl) | (rcases hv with rfl | rfl | rfl <;> rfl) | (rcases hv with rfl | rfl <;> rfl) | (subst hv; rfl)
    intro WF hb hbx hoth
    have HF := Lib.hid (And.intro (HK1.out.box HBb.out.2.2.2 hb hoth) (HH1.out.box hb hoth HBb.out.1.symm HBb.out.2.1 HBb.out.2.2.1))
    clear hb
    obtain ⟨q0, qf, ql⟩ := cells1p (show WF.heap[B]? = some (.cells #[.string ⟨#[]⟩] 332) from hbx)
    go_wp2
    exact bodyPost_ret (v := .agg #[.string ⟨#[]⟩]) (by simp [results, Tryz.results340, go_sem, q0]) rfl (RPost.done HF.out.1 HQ.out.symm HJ1.out HF.out.2 rfl)
  · have HS := Lib.hid hts
    clear hts
    go_upto_region 3 with (go_at_call 172; refine HTK.out.mono ?_; rintro e W1 ⟨-, h1⟩; obtain ⟨rfl, hb⟩ := h1 HS.out; have hk := Kb.of_below (b := b) hb; have HK1 := Lib.hid (HK0.out.trans hk); have HH1 := Lib.hid (HH0.out.under hb); have HJ1 := Lib.hid HJ0.out; have HX1 := Lib.hid (hk.kept HX0.out HBb.out.1); clear h1 hk hb HTK)
    have hQ := HQ.out
    unfold stepR at hQ
    rw [opt_no HH0.out HT1.out HS.out] at hQ
    replace HQ := Lib.hid hQ
    clear hQ HS
    have hc := r_small HH1.out
    have HC := Lib.hid hc
    clear hc
    rcases hr : smallR (ts.drop i) with ⟨a2, l2⟩ | ⟨er, p⟩
    rotate_left
    · have HR := Lib.hid hr
      clear hr
      go_wp2_with (go_at_call 240; refine HC.out.mono ?_; rintro e W2 hp; obtain ⟨he, hk⟩ := hp.no HR.out; unfold faultE at he; subst he; have HK2 := Lib.hid (HK1.out.trans hk); clear hk hp HC)
      exact ⟨rfl, RPost.fault HK2.out (HQ.out.symm.trans HR.out)⟩
    have HR := Lib.hid hr
    clear hr
    go_wp2_with
      (first
        | (go_at_call 240; refine HC.out.mono ?_; rintro e W2 hp; obtain ⟨hk, j2, v2, rfl, hl, hj, hrd, hv⟩ := hp.ok HR.out; subst hl; unfold VStr at hv; subst hv; have HK2 := Lib.hid (HK1.out.trans hk); have HKK2 := Lib.hid hk; have HH2 := Lib.hid hrd; have HJ2 := Lib.hid (Nat.le_trans HJ1.out hj); have HX2 := Lib.hid (hk.kept HX1.out HBb.out.1); clear hk hp hrd hj HC)
        | (refine wpList_store_box rfl 332 (.tmp 2) (.tmp 8) rfl B 0 rfl (.agg #[.string a2]) rfl [.string a2] rfl [.string ⟨#[]⟩] 332 HX2.out (Nat.le_refl _) (show (Tryz.prog.info? 332).map (·.size) = some 1 by kernel_rfl) ?c1 B (Nat.le_refl _) W2 (Below.refl _ _) ?_))
    case c1 => intro v hv; simp at hv; first | (rcases hv with rfl | rfl | rfl | rfl | rfl | rfl <;> rfl) | (rcases hv with rfl | rfl | rfl | rfl | rfl <;> rfl) | (rcases hv with rfl | rfl | rfl | rfl <;> rfl) | (rcases hv with rfl | rfl | rfl <;> rfl) | (rcases hv with rfl | rfl <;> rfl) | (subst hv; rfl)
    intro WF hb hbx hoth
    have HF := Lib.hid (And.intro (HK2.out.box HBb.out.2.2.2 hb hoth) (HH2.out.box hb hoth HBb.out.1.symm HBb.out.2.1 HBb.out.2.2.1))
    clear hb
    obtain ⟨q0, qf, ql⟩ := cells1p (show WF.heap[B]? = some (.cells #[.string a2] 332) from hbx)
    go_wp2
    exact bodyPost_ret (v := .agg #[.string a2]) (by simp [results, Tryz.results340, go_sem, q0]) rfl (RPost.done HF.out.1 (HQ.out.symm.trans HR.out) HJ2.out HF.out.2 rfl)
/-- what tyWithin comes to, at so many left -/
def TyC (n : Nat) : Prop := ∀ (d : Nat), d + n = 61 → ∀ {w : World} {b g cap : Nat} {ts : List Tok} {i dp : Nat}, RdAt w b g cap ts i dp →
    Calls Tryz.prog 313 #[.pointer (some ⟨b, 0, none⟩), .int .i64 d] w (RPost w b g cap ts i dp (tyR n (ts.drop i)) (VTy (n + 1)))
set_option maxRecDepth 100000 in
set_option maxHeartbeats 4000000 in
theorem r_ty {w : World} {b g cap : Nat} {ts : List Tok} {i dp : Nat} (H : RdAt w b g cap ts i dp) (hT : TyC 61) :
    Calls Tryz.prog 287 #[.pointer (some ⟨b, 0, none⟩)] w (RPost w b g cap ts i dp (tyR 61 (ts.drop i)) (VTy 62)) := by
  obtain ⟨r, hQ⟩ : ∃ r, tyR 61 (ts.drop i) = r := ⟨_, rfl⟩
  rw [hQ]
  have HQ := Lib.hid hQ
  clear hQ
  have HGB := Lib.hid (And.intro H.toks.1 H.vars.size)
  have HBW := Lib.hid (show b < w.heap.size from (Array.getElem?_eq_some_iff.1 H.at_).1)
  have HJ0 := Lib.hid (Nat.le_refl i)
  obtain ⟨W0, hW⟩ : ∃ W0, W0 = w.alloc (.cells #[.int .i64 0, .string ⟨#[]⟩, .slice none 0 0] 51) := ⟨_, rfl⟩
  have hbW : Below w.heap.size w W0 := by rw [hW]; exact alloc_below _ _
  have hx0 : W0.heap[w.heap.size]? = some (.cells #[.int .i64 0, .string ⟨#[]⟩, .slice none 0 0] 51) := by rw [hW, heap_alloc_new]
  have HH0 := Lib.hid (H.under hbW)
  have HK0 := Lib.hid (Kb.of_below (b := b) hbW)
  obtain ⟨B, hB⟩ : ∃ B, B = w.heap.size := ⟨_, rfl⟩
  rw [← hB] at hx0
  have HX0 := Lib.hid hx0
  clear hbW hx0 H
  go_enter Tryz.func287, Tryz.ntmps287
  go_upto_region 1 with fail
  rw [← hW]
  simp only [← hB]
  clear hW
  have HBb := Lib.hid (show B ≠ b ∧ g ≠ B ∧ nG ≤ B ∧ w.heap.size ≤ B by have h1 := HBW.out; have h2 := HGB.out; rw [hB]; exact ⟨by omega, by omega, h2.2, Nat.le_refl _⟩)
  replace hB := Lib.hid hB
  have hc := (show Calls Tryz.prog 313 #[.pointer (some ⟨b, 0, none⟩), .int .i64 0] W0 (RPost W0 b g cap ts i dp (tyR 61 (ts.drop i)) (VTy 62)) from hT 0 rfl HH0.out)
  have HC := Lib.hid hc
  clear hc
  rcases hr : tyR 61 (ts.drop i) with ⟨a1, l1⟩ | ⟨er, p⟩
  rotate_left
  · have HR := Lib.hid hr
    clear hr
    go_wp2_with (go_at_call 313; refine HC.out.mono ?_; rintro e W1 hp; obtain ⟨he, hk⟩ := hp.no HR.out; unfold faultE at he; subst he; have HK1 := Lib.hid (HK0.out.trans hk); clear hk hp HC)
    exact ⟨rfl, RPost.fault HK1.out (HQ.out.symm.trans HR.out)⟩
  have HR := Lib.hid hr
  clear hr
  go_wp2_with
    (first
      | (go_at_call 313; refine HC.out.mono ?_; rintro e W1 hp; obtain ⟨hk, j1, v1, rfl, hl, hj, hrd, hv⟩ := hp.ok HR.out; subst hl; obtain ⟨x1, rfl, rfl, hp⟩ := hv; obtain ⟨kk, nm, hh1, ll⟩ := x1; simp only [tyV, tyC] at *; have HP := Lib.hid hp; clear hp; have HK1 := Lib.hid (HK0.out.trans hk); have HKK1 := Lib.hid hk; have HH1 := Lib.hid hrd; have HJ1 := Lib.hid (Nat.le_trans HJ0.out hj); have HX1 := Lib.hid (hk.kept HX0.out HBb.out.1); clear hk hp hrd hj HC)
      | (refine wpList_store_box rfl 51 (.tmp 2) (.tmp 4) rfl B 0 rfl (.agg #[.int .i64 kk, .string nm, .slice hh1.oa ll.length hh1.cap]) rfl [.int .i64 kk, .string nm, .slice hh1.oa ll.length hh1.cap] rfl [.int .i64 0, .string ⟨#[]⟩, .slice none 0 0] 51 HX1.out (Nat.le_refl _) (show (Tryz.prog.info? 51).map (·.size) = some 3 by kernel_rfl) ?c1 B (Nat.le_refl _) W1 (Below.refl _ _) ?_))
  case c1 => intro v hv; simp at hv; first | (rcases hv with rfl | rfl | rfl | rfl | rfl | rfl <;> rfl) | (rcases hv with rfl | rfl | rfl | rfl | rfl <;> rfl) | (rcases hv with rfl | rfl | rfl | rfl <;> rfl) | (rcases hv with rfl | rfl | rfl <;> rfl) | (rcases hv with rfl | rfl <;> rfl) | (subst hv; rfl)
  intro WF hb hbx hoth
  have HF := Lib.hid (And.intro (HK1.out.box HBb.out.2.2.2 hb hoth) (HH1.out.box hb hoth HBb.out.1.symm HBb.out.2.1 HBb.out.2.2.1))
  have HU := Lib.hid (TyH.und _ _ _ _ (und_box hb hoth (blk_lt HX0.out) HK0.out.size) HP.out)
  clear hb
  obtain ⟨q0, q1, q2, qf, ql⟩ := cells3p (show WF.heap[B]? = some (.cells #[.int .i64 kk, .string nm, .slice hh1.oa ll.length hh1.cap] 51) from hbx)
  go_wp2
  exact bodyPost_ret (v := .agg #[.int .i64 kk, .string nm, .slice hh1.oa ll.length hh1.cap]) (by simp [results, Tryz.results287, go_sem, q0, q1, q2]) rfl (RPost.done HF.out.1 (HQ.out.symm.trans HR.out) HJ1.out HF.out.2 ⟨.mk kk nm hh1 ll, rfl, rfl, HU.out⟩)
set_option maxRecDepth 100000 in
set_option maxHeartbeats 4000000 in
theorem r_field {w : World} {b g cap : Nat} {ts : List Tok} {i dp : Nat} (H : RdAt w b g cap ts i dp) (hT : TyC 61) :
    Calls Tryz.prog 242 #[.pointer (some ⟨b, 0, none⟩)] w (RPost w b g cap ts i dp (fieldR (ts.drop i)) (VFd 62)) := by
  obtain ⟨r, hQ⟩ : ∃ r, fieldR (ts.drop i) = r := ⟨_, rfl⟩
  rw [hQ]
  have HQ := Lib.hid hQ
  clear hQ
  have HGB := Lib.hid (And.intro H.toks.1 H.vars.size)
  have HBW := Lib.hid (show b < w.heap.size from (Array.getElem?_eq_some_iff.1 H.at_).1)
  have HJ0 := Lib.hid (Nat.le_refl i)
  obtain ⟨W0, hW⟩ : ∃ W0, W0 = w.alloc (.cells #[.string ⟨#[]⟩, .int .i64 0, .string ⟨#[]⟩, .slice none 0 0] 56) := ⟨_, rfl⟩
  have hbW : Below w.heap.size w W0 := by rw [hW]; exact alloc_below _ _
  have hx0 : W0.heap[w.heap.size]? = some (.cells #[.string ⟨#[]⟩, .int .i64 0, .string ⟨#[]⟩, .slice none 0 0] 56) := by rw [hW, heap_alloc_new]
  have HH0 := Lib.hid (H.under hbW)
  have HK0 := Lib.hid (Kb.of_below (b := b) hbW)
  obtain ⟨B, hB⟩ : ∃ B, B = w.heap.size := ⟨_, rfl⟩
  rw [← hB] at hx0
  have HX0 := Lib.hid hx0
  clear hbW hx0 H
  go_enter Tryz.func242, Tryz.ntmps242
  go_upto_region 1 with fail
  rw [← hW]
  simp only [← hB]
  clear hW
  have HBb := Lib.hid (show B ≠ b ∧ g ≠ B ∧ nG ≤ B ∧ w.heap.size ≤ B by have h1 := HBW.out; have h2 := HGB.out; rw [hB]; exact ⟨by omega, by omega, h2.2, Nat.le_refl _⟩)
  replace hB := Lib.hid hB
  have hc := r_small HH0.out
  have HC := Lib.hid hc
  clear hc
  rcases hr : smallR (ts.drop i) with ⟨a1, l1⟩ | ⟨er, p⟩
  rotate_left
  · have HR := Lib.hid hr
    clear hr
    go_wp2_with (go_at_call 240; refine HC.out.mono ?_; rintro e W1 hp; obtain ⟨he, hk⟩ := hp.no HR.out; unfold faultE at he; subst he; have HK1 := Lib.hid (HK0.out.trans hk); clear hk hp HC)
    exact ⟨rfl, RPost.fault HK1.out (HQ.out.symm.trans (bind_no HR.out))⟩
  have HR := Lib.hid hr
  clear hr
  go_upto_region 2 with (go_at_call 240; refine HC.out.mono ?_; rintro e W1 hp; obtain ⟨hk, j1, v1, rfl, hl, hj, hrd, hv⟩ := hp.ok HR.out; subst hl; unfold VStr at hv; subst hv; have HK1 := Lib.hid (HK0.out.trans hk); have HKK1 := Lib.hid hk; have HH1 := Lib.hid hrd; have HJ1 := Lib.hid (Nat.le_trans HJ0.out hj); have HX1 := Lib.hid (hk.kept HX0.out HBb.out.1); clear hk hp hrd hj HC)
  have hQ := HQ.out
  unfold fieldR at hQ
  rw [bind_ok HR.out] at hQ
  replace HQ := Lib.hid hQ
  clear hQ HR
  have hc := need_any HH1.out wColon (by decide)
  have HC := Lib.hid hc
  clear hc
  rcases hr : needR wColon (ts.drop j1) with ⟨a2, l2⟩ | ⟨er, p⟩
  rotate_left
  · have HR := Lib.hid hr
    clear hr
    go_wp2_with (go_at_call 237; refine HC.out.mono ?_; rintro e W2 hp; obtain ⟨he, hk⟩ := hp.no HR.out; unfold faultE at he; subst he; have HK2 := Lib.hid (HK1.out.trans hk); clear hk hp HC)
    exact ⟨rfl, RPost.fault HK2.out (HQ.out.symm.trans (bind_no HR.out))⟩
  have HR := Lib.hid hr
  clear hr
  go_upto_region 3 with (go_at_call 237; refine HC.out.mono ?_; rintro e W2 hp; obtain ⟨hk, j2, v2, rfl, hl, hj, hrd, hv⟩ := hp.ok HR.out; subst hl; unfold VUnit at hv; subst hv; have HK2 := Lib.hid (HK1.out.trans hk); have HKK2 := Lib.hid hk; have HH2 := Lib.hid hrd; have HJ2 := Lib.hid (Nat.le_trans HJ1.out hj); have HX2 := Lib.hid (hk.kept HX1.out HBb.out.1); clear hk hp hrd hj HC)
  have hQ := HQ.out
  rw [bind_ok HR.out] at hQ
  replace HQ := Lib.hid hQ
  clear hQ HR
  have hc := r_ty HH2.out hT
  have HC := Lib.hid hc
  clear hc
  rcases hr : tyR 61 (ts.drop j2) with ⟨a3, l3⟩ | ⟨er, p⟩
  rotate_left
  · have HR := Lib.hid hr
    clear hr
    go_wp2_with (go_at_call 287; refine HC.out.mono ?_; rintro e W3 hp; obtain ⟨he, hk⟩ := hp.no HR.out; unfold faultE at he; subst he; have HK3 := Lib.hid (HK2.out.trans hk); clear hk hp HC)
    exact ⟨rfl, RPost.fault HK3.out (HQ.out.symm.trans (bind_no HR.out))⟩
  have HR := Lib.hid hr
  clear hr
  go_wp2_with
    (first
      | (go_at_call 287; refine HC.out.mono ?_; rintro e W3 hp; obtain ⟨hk, j3, v3, rfl, hl, hj, hrd, hv⟩ := hp.ok HR.out; subst hl; obtain ⟨x1, rfl, rfl, hp⟩ := hv; obtain ⟨kk, nm, hh1, ll⟩ := x1; simp only [tyV, tyC] at *; have HP := Lib.hid hp; clear hp; have HK3 := Lib.hid (HK2.out.trans hk); have HKK3 := Lib.hid hk; have HH3 := Lib.hid hrd; have HJ3 := Lib.hid (Nat.le_trans HJ2.out hj); have HX3 := Lib.hid (hk.kept HX2.out HBb.out.1); clear hk hp hrd hj HC)
      | (refine wpList_store_box rfl 56 (.tmp 2) (.tmp 11) rfl B 0 rfl (.agg #[.string a1, .int .i64 kk, .string nm, .slice hh1.oa ll.length hh1.cap]) rfl [.string a1, .int .i64 kk, .string nm, .slice hh1.oa ll.length hh1.cap] rfl [.string ⟨#[]⟩, .int .i64 0, .string ⟨#[]⟩, .slice none 0 0] 56 HX3.out (Nat.le_refl _) (show (Tryz.prog.info? 56).map (·.size) = some 4 by kernel_rfl) ?c1 B (Nat.le_refl _) W3 (Below.refl _ _) ?_))
  case c1 => intro v hv; simp at hv; first | (rcases hv with rfl | rfl | rfl | rfl | rfl | rfl <;> rfl) | (rcases hv with rfl | rfl | rfl | rfl | rfl <;> rfl) | (rcases hv with rfl | rfl | rfl | rfl <;> rfl) | (rcases hv with rfl | rfl | rfl <;> rfl) | (rcases hv with rfl | rfl <;> rfl) | (subst hv; rfl)
  intro WF hb hbx hoth
  have HF := Lib.hid (And.intro (HK3.out.box HBb.out.2.2.2 hb hoth) (HH3.out.box hb hoth HBb.out.1.symm HBb.out.2.1 HBb.out.2.2.1))
  have HU := Lib.hid (TyH.und _ _ _ _ (und_box hb hoth (blk_lt HX2.out) HK2.out.size) HP.out)
  clear hb
  obtain ⟨q0, q1, q2, q3, qf, ql⟩ := cells4 (show WF.heap[B]? = some (.cells #[.string a1, .int .i64 kk, .string nm, .slice hh1.oa ll.length hh1.cap] 56) from hbx)
  go_wp2
  exact bodyPost_ret (v := .agg #[.string a1, .int .i64 kk, .string nm, .slice hh1.oa ll.length hh1.cap]) (by simp [results, Tryz.results242, go_sem, q0, q1, q2, q3]) rfl (RPost.done HF.out.1 (HQ.out.symm.trans (map_ok HR.out)) HJ3.out HF.out.2 ⟨⟨a1, .mk kk nm hh1 ll⟩, rfl, rfl, HU.out⟩)
end Go.Proofs.YtggdpgaedmegbaaGreatDoor
