/-
  Statements, over a contract of block. Conditions: the reader lies in the heap; what a block's reading comes to.
-/
import Derived.Test.YtggdpgaedmegbaaGreatDoorJPOfb
import Derived.Test.YtggdpgaedmegbaaGreatDoorJPReck
namespace Go.Proofs.YtggdpgaedmegbaaGreatDoor
open Go.RowKit

set_option maxRecDepth 100000 in
set_option maxHeartbeats 40000000 in
theorem r_stmt {w : World} {b g cap : Nat} {ts : List Tok} {i dp : Nat} (H : RdAt w b g cap ts i dp) {n : Nat} (blk : Rd (List St5)) (hblk : Ru1 true true blk) (hBk : ∀ (w : World) (i : Nat), RdAt w b g cap ts i dp → Calls Tryz.prog 243 #[.pointer (some ⟨b, 0, none⟩)] w (RPost w b g cap ts i dp (blk (ts.drop i)) (VRow 21 stC erSt (StH (n + 61))))) :
    Calls Tryz.prog 292 #[.pointer (some ⟨b, 0, none⟩)] w (RPost w b g cap ts i dp (stmtR blk (ts.drop i)) (VSt (n + 63))) := by
  obtain ⟨r, hQ⟩ : ∃ r, stmtR blk (ts.drop i) = r := ⟨_, rfl⟩
  rw [hQ]
  have HQ := Lib.hid hQ
  clear hQ
  have HGB := Lib.hid (And.intro H.toks.1 H.vars.size)
  have HBW := Lib.hid (show b < w.heap.size from (Array.getElem?_eq_some_iff.1 H.at_).1)
  have HJ0 := Lib.hid (Nat.le_refl i)
  obtain ⟨W0, hW⟩ : ∃ W0, W0 = w.alloc (.cells #[.int .i64 0, .int .i64 0, .string ⟨#[]⟩, .int .i64 0, .string ⟨#[]⟩, .slice none 0 0, .string ⟨#[]⟩, .slice none 0 0, .int .i64 0, .slice none 0 0, .string ⟨#[]⟩, .slice none 0 0, .string ⟨#[]⟩, .string ⟨#[]⟩, .bool false, .int .i64 0, .string ⟨#[]⟩, .slice none 0 0, .slice none 0 0, .slice none 0 0, .slice none 0 0] 108) := ⟨_, rfl⟩
  have hbW : Below w.heap.size w W0 := by rw [hW]; exact alloc_below _ _
  have hx0 : W0.heap[w.heap.size]? = some (.cells #[.int .i64 0, .int .i64 0, .string ⟨#[]⟩, .int .i64 0, .string ⟨#[]⟩, .slice none 0 0, .string ⟨#[]⟩, .slice none 0 0, .int .i64 0, .slice none 0 0, .string ⟨#[]⟩, .slice none 0 0, .string ⟨#[]⟩, .string ⟨#[]⟩, .bool false, .int .i64 0, .string ⟨#[]⟩, .slice none 0 0, .slice none 0 0, .slice none 0 0, .slice none 0 0] 108) := by rw [hW, heap_alloc_new]
  have HH0 := Lib.hid (H.under hbW)
  have HK0 := Lib.hid (Kb.of_below (b := b) hbW)
  obtain ⟨B, hB⟩ : ∃ B, B = w.heap.size := ⟨_, rfl⟩
  rw [← hB] at hx0
  have HX0 := Lib.hid hx0
  clear hbW hx0 H
  go_enter Tryz.func292, Tryz.ntmps292
  go_upto_region 1 with fail
  rw [← hW]
  simp only [← hB]
  clear hW
  have HBb := Lib.hid (show B ≠ b ∧ g ≠ B ∧ nG ≤ B ∧ w.heap.size ≤ B by have h1 := HBW.out; have h2 := HGB.out; rw [hB]; exact ⟨by omega, by omega, h2.2, Nat.le_refl _⟩)
  replace hB := Lib.hid hB
  have HBk := Lib.hid hBk
  have HRB := Lib.hid hblk
  clear hBk hblk
  obtain ⟨t1, ht1, hh1, -⟩ := HH0.out.tok
  have hQ := HQ.out
  rw [stmt_eq] at hQ
  unfold atR at hQ
  simp only [hh1] at hQ
  replace HQ := Lib.hid hQ
  have hnx := next_any HH0.out ht1
  simp only [tokV] at hnx
  have HN := Lib.hid hnx
  have hfd := tok_pos
  obtain ⟨q, hq⟩ : ∃ q : Int, q = t1.pos := ⟨_, rfl⟩
  rw [← hq] at hQ hnx
  replace HQ := Lib.hid hQ
  replace HN := Lib.hid hnx
  clear hQ hnx ht1 hh1 hq
  go_upto_region 2 with (go_at_call 171; refine HN.out.mono ?_; rintro e W1 ⟨rfl, hb⟩; have hk := Kb.of_below (b := b) hb; have HK1 := Lib.hid (HK0.out.trans hk); have HH1 := Lib.hid (HH0.out.under hb); have HJ1 := Lib.hid HJ0.out; have HX1 := Lib.hid (hk.kept HX0.out HBb.out.1); clear hk hb HN)
  clear hfd
  have hc := r_ofb HH1.out blk HRB.out HBk.out
  have HC := Lib.hid hc
  clear hc
  rcases hr : ofBlocksR blk (ts.drop i) with ⟨o, l2⟩ | ⟨er, p⟩
  rotate_left
  · have HR := Lib.hid hr
    clear hr
    go_wp2_with (go_at_call 314; refine HC.out.mono ?_; rintro e W2 hp; obtain ⟨he, hk⟩ := hp.no HR.out; unfold faultE at he; subst he; have HK2 := Lib.hid (HK1.out.trans hk); clear hk hp HC)
    exact ⟨rfl, RPost.fault HK2.out (HQ.out.symm.trans (bind_no HR.out))⟩
  have hQ := HQ.out
  rw [bind_ok hr] at hQ
  replace HQ := Lib.hid hQ
  clear hQ
  have HR := Lib.hid hr
  clear hr
  rcases o with _ | s
  · go_upto_region 3 with
      (first
        | (go_at_call 314; refine HC.out.mono ?_; rintro e W2 hp; obtain ⟨hk, j2, v2, rfl, hl, hj, hrd, hv⟩ := hp.ok HR.out; subst hl; have hv1 : v2 = .tuple #[.agg #[.int .i64 0, .int .i64 0, .string ⟨#[]⟩, .int .i64 0, .string ⟨#[]⟩, .slice none 0 0, .string ⟨#[]⟩, .slice none 0 0, .int .i64 0, .slice none 0 0, .string ⟨#[]⟩, .slice none 0 0, .string ⟨#[]⟩, .string ⟨#[]⟩, .bool false, .int .i64 0, .string ⟨#[]⟩, .slice none 0 0, .slice none 0 0, .slice none 0 0, .slice none 0 0], .bool false] := (by obtain ⟨x, h1, h2⟩ := hv; subst h2; exact h1); subst hv1; clear hv; have HK2 := Lib.hid (HK1.out.trans hk); have HH2 := Lib.hid hrd; have HJ2 := Lib.hid (Nat.le_trans HJ1.out hj); have HX2 := Lib.hid (hk.kept HX1.out HBb.out.1); clear hk hp hrd hj HC)
        | (refine wpList_store_box rfl 108 (.tmp 4) (.tmp 12) rfl W2.heap.size 0 rfl (.agg #[.int .i64 0, .int .i64 0, .string ⟨#[]⟩, .int .i64 0, .string ⟨#[]⟩, .slice none 0 0, .string ⟨#[]⟩, .slice none 0 0, .int .i64 0, .slice none 0 0, .string ⟨#[]⟩, .slice none 0 0, .string ⟨#[]⟩, .string ⟨#[]⟩, .bool false, .int .i64 0, .string ⟨#[]⟩, .slice none 0 0, .slice none 0 0, .slice none 0 0, .slice none 0 0]) rfl [.int .i64 0, .int .i64 0, .string ⟨#[]⟩, .int .i64 0, .string ⟨#[]⟩, .slice none 0 0, .string ⟨#[]⟩, .slice none 0 0, .int .i64 0, .slice none 0 0, .string ⟨#[]⟩, .slice none 0 0, .string ⟨#[]⟩, .string ⟨#[]⟩, .bool false, .int .i64 0, .string ⟨#[]⟩, .slice none 0 0, .slice none 0 0, .slice none 0 0, .slice none 0 0] rfl [.int .i64 0, .int .i64 0, .string ⟨#[]⟩, .int .i64 0, .string ⟨#[]⟩, .slice none 0 0, .string ⟨#[]⟩, .slice none 0 0, .int .i64 0, .slice none 0 0, .string ⟨#[]⟩, .slice none 0 0, .string ⟨#[]⟩, .string ⟨#[]⟩, .bool false, .int .i64 0, .string ⟨#[]⟩, .slice none 0 0, .slice none 0 0, .slice none 0 0, .slice none 0 0] 108 (heap_alloc_new W2 (.cells #[.int .i64 0, .int .i64 0, .string ⟨#[]⟩, .int .i64 0, .string ⟨#[]⟩, .slice none 0 0, .string ⟨#[]⟩, .slice none 0 0, .int .i64 0, .slice none 0 0, .string ⟨#[]⟩, .slice none 0 0, .string ⟨#[]⟩, .string ⟨#[]⟩, .bool false, .int .i64 0, .string ⟨#[]⟩, .slice none 0 0, .slice none 0 0, .slice none 0 0, .slice none 0 0] 108)) (Nat.le_refl _) (show (Tryz.prog.info? 108).map (·.size) = some 21 by kernel_rfl) ?c1 W2.heap.size (Nat.le_refl _) (W2.alloc (.cells #[.int .i64 0, .int .i64 0, .string ⟨#[]⟩, .int .i64 0, .string ⟨#[]⟩, .slice none 0 0, .string ⟨#[]⟩, .slice none 0 0, .int .i64 0, .slice none 0 0, .string ⟨#[]⟩, .slice none 0 0, .string ⟨#[]⟩, .string ⟨#[]⟩, .bool false, .int .i64 0, .string ⟨#[]⟩, .slice none 0 0, .slice none 0 0, .slice none 0 0, .slice none 0 0] 108)) (Below.refl _ _) ?_; rotate_left; intro W3 hb hbx hoth))
    case c1 => first | exact ⟨rfl, rfl, rfl, rfl, rfl, rfl, rfl, rfl, rfl, rfl, rfl, rfl, rfl, rfl, rfl, rfl, rfl, rfl, rfl, rfl, rfl⟩ | exact rfl | (intro v hv; simp at hv; first | (rcases hv with rfl | rfl | rfl | rfl | rfl | rfl | rfl | rfl | rfl | rfl | rfl | rfl | rfl | rfl | rfl | rfl | rfl | rfl | rfl | rfl | rfl <;> rfl) | (rcases hv with rfl | rfl | rfl | rfl | rfl | rfl | rfl | rfl | rfl | rfl | rfl | rfl | rfl | rfl | rfl | rfl | rfl | rfl | rfl | rfl <;> rfl) | (rcases hv with rfl | rfl | rfl | rfl | rfl | rfl | rfl | rfl | rfl | rfl | rfl | rfl | rfl | rfl | rfl | rfl | rfl | rfl | rfl <;> rfl) | (rcases hv with rfl | rfl | rfl | rfl | rfl | rfl | rfl | rfl | rfl | rfl | rfl | rfl | rfl | rfl | rfl | rfl | rfl | rfl <;> rfl) | (rcases hv with rfl | rfl | rfl | rfl | rfl | rfl | rfl | rfl | rfl | rfl | rfl | rfl | rfl | rfl | rfl | rfl | rfl <;> rfl) | (rcases hv with rfl | rfl | rfl | rfl | rfl | rfl | rfl | rfl | rfl | rfl | rfl | rfl | rfl | rfl | rfl | rfl <;> rfl) | (rcases hv with rfl | rfl | rfl | rfl | rfl | rfl | rfl | rfl | rfl | rfl | rfl | rfl | rfl | rfl | rfl <;> rfl) | (rcases hv with rfl | rfl | rfl | rfl | rfl | rfl | rfl | rfl | rfl | rfl | rfl | rfl | rfl | rfl <;> rfl) | (rcases hv with rfl | rfl | rfl | rfl | rfl | rfl | rfl | rfl | rfl | rfl | rfl | rfl | rfl <;> rfl) | (rcases hv with rfl | rfl | rfl | rfl | rfl | rfl | rfl | rfl | rfl | rfl | rfl | rfl <;> rfl) | (rcases hv with rfl | rfl | rfl | rfl | rfl | rfl | rfl | rfl | rfl | rfl | rfl <;> rfl) | (rcases hv with rfl | rfl | rfl | rfl | rfl | rfl | rfl | rfl | rfl | rfl <;> rfl) | (rcases hv with rfl | rfl | rfl | rfl | rfl | rfl | rfl | rfl | rfl <;> rfl) | (rcases hv with rfl | rfl | rfl | rfl | rfl | rfl | rfl | rfl <;> rfl) | (rcases hv with rfl | rfl | rfl | rfl | rfl | rfl | rfl <;> rfl) | (rcases hv with rfl | rfl | rfl | rfl | rfl | rfl <;> rfl) | (rcases hv with rfl | rfl | rfl | rfl | rfl <;> rfl) | (rcases hv with rfl | rfl | rfl | rfl <;> rfl) | (rcases hv with rfl | rfl | rfl <;> rfl) | (rcases hv with rfl | rfl <;> rfl) | (subst hv; rfl))
    obtain ⟨O, hO⟩ : ∃ O, O = Obj.cells #[.int .i64 0, .int .i64 0, .string ⟨#[]⟩, .int .i64 0, .string ⟨#[]⟩, .slice none 0 0, .string ⟨#[]⟩, .slice none 0 0, .int .i64 0, .slice none 0 0, .string ⟨#[]⟩, .slice none 0 0, .string ⟨#[]⟩, .string ⟨#[]⟩, .bool false, .int .i64 0, .string ⟨#[]⟩, .slice none 0 0, .slice none 0 0, .slice none 0 0, .slice none 0 0] 108 := ⟨_, rfl⟩
    rw [← hO] at hb hoth
    clear hO
    obtain ⟨P, hP⟩ : ∃ P, P = W2.heap.size := ⟨_, rfl⟩
    rw [← hP] at hb hbx hoth
    simp only [← hP]
    have hal := alloc_below W2 O
    rw [← hP] at hal
    have hBP : B < P := by rw [hP]; exact blk_lt HX2.out
    have hbP : b < P := by rw [hP]; exact blk_lt HH2.out.at_
    have hgP : g < P := by rw [hP]; exact HH2.out.toks.1
    have hwP : w.heap.size ≤ P := by rw [hP]; exact HK2.out.size
    have hnP : nG ≤ P := by have := HBb.out.2.2.1; omega
    have HB2 := Lib.hid (hal.trans hb)
    have HP_3 := Lib.hid (show W3.heap[P]? = some (.cells #[.int .i64 0, .int .i64 0, .string ⟨#[]⟩, .int .i64 0, .string ⟨#[]⟩, .slice none 0 0, .string ⟨#[]⟩, .slice none 0 0, .int .i64 0, .slice none 0 0, .string ⟨#[]⟩, .slice none 0 0, .string ⟨#[]⟩, .string ⟨#[]⟩, .bool false, .int .i64 0, .string ⟨#[]⟩, .slice none 0 0, .slice none 0 0, .slice none 0 0, .slice none 0 0] 108) by have h := hbx; rw [splL_all [.int .i64 0, .int .i64 0, .string ⟨#[]⟩, .int .i64 0, .string ⟨#[]⟩, .slice none 0 0, .string ⟨#[]⟩, .slice none 0 0, .int .i64 0, .slice none 0 0, .string ⟨#[]⟩, .slice none 0 0, .string ⟨#[]⟩, .string ⟨#[]⟩, .bool false, .int .i64 0, .string ⟨#[]⟩, .slice none 0 0, .slice none 0 0, .slice none 0 0, .slice none 0 0] [.int .i64 0, .int .i64 0, .string ⟨#[]⟩, .int .i64 0, .string ⟨#[]⟩, .slice none 0 0, .string ⟨#[]⟩, .slice none 0 0, .int .i64 0, .slice none 0 0, .string ⟨#[]⟩, .slice none 0 0, .string ⟨#[]⟩, .string ⟨#[]⟩, .bool false, .int .i64 0, .string ⟨#[]⟩, .slice none 0 0, .slice none 0 0, .slice none 0 0, .slice none 0 0] rfl] at h; exact h)
    have HX3 := Lib.hid ((HB2.out.block B hBP).trans HX2.out)
    have HH3 := Lib.hid (show RdAt W3 b g cap ts j2 dp by have h1 := HH2.out; exact h1.keep (Kb.of_below (hP ▸ HB2.out)) ((HB2.out.block b hbP).trans h1.at_) h1.lt)
    have HK3 := Lib.hid (show Kb b w W3 from HK2.out.trans (Kb.of_below (hP ▸ HB2.out)))
    have HJ3 := Lib.hid HJ2.out
    have HNP := Lib.hid (show P ≠ b ∧ w.heap.size ≤ P ∧ g ≠ P ∧ nG ≤ P ∧ B ≠ P from ⟨by omega, hwP, by omega, hnP, by omega⟩)
    clear hal hb hbx hoth hBP hbP hgP hwP hnP HB2
    replace hP := Lib.hid hP
    replace HQ := Lib.hid (show bindR (plainR 0) (fun s => mapR (needR wSemi) fun _ => setPos q s) (ts.drop j2) = r from HQ.out)
    go_upto_region 4 with fail
    go_upto_region 5 with
      (first
        | (go_at_call 315
           refine (r_plain HH3.out (n := n) made_all reck_all).mono ?_
           rintro e W4 hp
           rcases hr4 : plainR 0 (ts.drop j2) with ⟨a4, l4⟩ | ⟨er, p⟩
           rotate_left
           · obtain ⟨he, hk⟩ := hp.no hr4
             unfold faultE at he
             subst he
             exact ⟨rfl, RPost.fault (HK3.out.trans hk) (by have h := HQ.out; rw [bind_no hr4] at h; exact h.symm)⟩
           obtain ⟨hk, j4, v4, rfl, hl, hj, hrd, hv⟩ := hp.ok hr4
           subst hl
           obtain ⟨⟨xk, xq, xnm, ⟨tk, tn, th, tl⟩, ⟨pn, ph, pp⟩, ⟨rk, rh, ro, ⟨rpn, rph, rpp⟩, rn, rv⟩, ⟨on, oi, ⟨opn, oph, opp⟩⟩, xht, xth, xhe, xel, xha, xar⟩, rfl, hxe, hxh⟩ := hv
           simp only [stV, stC, tyC, plC, rvC, opC, List.cons_append, List.nil_append]
           have HXE := Lib.hid hxe
           have HUx := Lib.hid hxh
           clear hxe hxh
           have HR4 := Lib.hid hr4
           have HK4 := Lib.hid (HK3.out.trans hk)
           have HH4 := Lib.hid hrd
           have HJ4 := Lib.hid (Nat.le_trans HJ3.out hj)
           have HX4 := Lib.hid (hk.kept HX3.out HBb.out.1)
           have HP_4 := Lib.hid (hk.kept HP_3.out HNP.out.1)
           clear hk hp hrd hj hr4)
        | (refine wpList_store_box rfl 108 (.tmp 4) (.tmp 17) rfl P 0 rfl (.agg #[.int .i64 xk, .int .i64 xq, .string xnm, .int .i64 tk, .string tn, .slice th.oa tl.length th.cap, .string pn, .slice ph.oa pp.length ph.cap, .int .i64 rk, .slice rh.oa ro.length rh.cap, .string rpn, .slice rph.oa rpp.length rph.cap, .string rn, .string rv, .bool on, .int .i64 oi, .string opn, .slice oph.oa opp.length oph.cap, .slice xht.oa xth.length xht.cap, .slice xhe.oa xel.length xhe.cap, .slice xha.oa xar.length xha.cap]) rfl [.int .i64 xk, .int .i64 xq, .string xnm, .int .i64 tk, .string tn, .slice th.oa tl.length th.cap, .string pn, .slice ph.oa pp.length ph.cap, .int .i64 rk, .slice rh.oa ro.length rh.cap, .string rpn, .slice rph.oa rpp.length rph.cap, .string rn, .string rv, .bool on, .int .i64 oi, .string opn, .slice oph.oa opp.length oph.cap, .slice xht.oa xth.length xht.cap, .slice xhe.oa xel.length xhe.cap, .slice xha.oa xar.length xha.cap] rfl [.int .i64 0, .int .i64 0, .string ⟨#[]⟩, .int .i64 0, .string ⟨#[]⟩, .slice none 0 0, .string ⟨#[]⟩, .slice none 0 0, .int .i64 0, .slice none 0 0, .string ⟨#[]⟩, .slice none 0 0, .string ⟨#[]⟩, .string ⟨#[]⟩, .bool false, .int .i64 0, .string ⟨#[]⟩, .slice none 0 0, .slice none 0 0, .slice none 0 0, .slice none 0 0] 108 HP_4.out (Nat.le_refl _) (show (Tryz.prog.info? 108).map (·.size) = some 21 by kernel_rfl) ?c1 P (Nat.le_refl _) W4 (Below.refl _ _) ?_; rotate_left; intro W5 hb hbx hoth))
    case c1 => first | exact ⟨rfl, rfl, rfl, rfl, rfl, rfl, rfl, rfl, rfl, rfl, rfl, rfl, rfl, rfl, rfl, rfl, rfl, rfl, rfl, rfl, rfl⟩ | exact rfl | (intro v hv; simp at hv; first | (rcases hv with rfl | rfl | rfl | rfl | rfl | rfl | rfl | rfl | rfl | rfl | rfl | rfl | rfl | rfl | rfl | rfl | rfl | rfl | rfl | rfl | rfl <;> rfl) | (rcases hv with rfl | rfl | rfl | rfl | rfl | rfl | rfl | rfl | rfl | rfl | rfl | rfl | rfl | rfl | rfl | rfl | rfl | rfl | rfl | rfl <;> rfl) | (rcases hv with rfl | rfl | rfl | rfl | rfl | rfl | rfl | rfl | rfl | rfl | rfl | rfl | rfl | rfl | rfl | rfl | rfl | rfl | rfl <;> rfl) | (rcases hv with rfl | rfl | rfl | rfl | rfl | rfl | rfl | rfl | rfl | rfl | rfl | rfl | rfl | rfl | rfl | rfl | rfl | rfl <;> rfl) | (rcases hv with rfl | rfl | rfl | rfl | rfl | rfl | rfl | rfl | rfl | rfl | rfl | rfl | rfl | rfl | rfl | rfl | rfl <;> rfl) | (rcases hv with rfl | rfl | rfl | rfl | rfl | rfl | rfl | rfl | rfl | rfl | rfl | rfl | rfl | rfl | rfl | rfl <;> rfl) | (rcases hv with rfl | rfl | rfl | rfl | rfl | rfl | rfl | rfl | rfl | rfl | rfl | rfl | rfl | rfl | rfl <;> rfl) | (rcases hv with rfl | rfl | rfl | rfl | rfl | rfl | rfl | rfl | rfl | rfl | rfl | rfl | rfl | rfl <;> rfl) | (rcases hv with rfl | rfl | rfl | rfl | rfl | rfl | rfl | rfl | rfl | rfl | rfl | rfl | rfl <;> rfl) | (rcases hv with rfl | rfl | rfl | rfl | rfl | rfl | rfl | rfl | rfl | rfl | rfl | rfl <;> rfl) | (rcases hv with rfl | rfl | rfl | rfl | rfl | rfl | rfl | rfl | rfl | rfl | rfl <;> rfl) | (rcases hv with rfl | rfl | rfl | rfl | rfl | rfl | rfl | rfl | rfl | rfl <;> rfl) | (rcases hv with rfl | rfl | rfl | rfl | rfl | rfl | rfl | rfl | rfl <;> rfl) | (rcases hv with rfl | rfl | rfl | rfl | rfl | rfl | rfl | rfl <;> rfl) | (rcases hv with rfl | rfl | rfl | rfl | rfl | rfl | rfl <;> rfl) | (rcases hv with rfl | rfl | rfl | rfl | rfl | rfl <;> rfl) | (rcases hv with rfl | rfl | rfl | rfl | rfl <;> rfl) | (rcases hv with rfl | rfl | rfl | rfl <;> rfl) | (rcases hv with rfl | rfl | rfl <;> rfl) | (rcases hv with rfl | rfl <;> rfl) | (subst hv; rfl))
    have hQ := HQ.out
    rw [bind_ok HR4.out] at hQ
    replace HQ := Lib.hid hQ
    clear hQ
    have HP_5 := Lib.hid (show W5.heap[P]? = some (.cells #[.int .i64 xk, .int .i64 xq, .string xnm, .int .i64 tk, .string tn, .slice th.oa tl.length th.cap, .string pn, .slice ph.oa pp.length ph.cap, .int .i64 rk, .slice rh.oa ro.length rh.cap, .string rpn, .slice rph.oa rpp.length rph.cap, .string rn, .string rv, .bool on, .int .i64 oi, .string opn, .slice oph.oa opp.length oph.cap, .slice xht.oa xth.length xht.cap, .slice xhe.oa xel.length xhe.cap, .slice xha.oa xar.length xha.cap] 108) by have h := hbx; rw [splL_all [.int .i64 xk, .int .i64 xq, .string xnm, .int .i64 tk, .string tn, .slice th.oa tl.length th.cap, .string pn, .slice ph.oa pp.length ph.cap, .int .i64 rk, .slice rh.oa ro.length rh.cap, .string rpn, .slice rph.oa rpp.length rph.cap, .string rn, .string rv, .bool on, .int .i64 oi, .string opn, .slice oph.oa opp.length oph.cap, .slice xht.oa xth.length xht.cap, .slice xhe.oa xel.length xhe.cap, .slice xha.oa xar.length xha.cap] [.int .i64 0, .int .i64 0, .string ⟨#[]⟩, .int .i64 0, .string ⟨#[]⟩, .slice none 0 0, .string ⟨#[]⟩, .slice none 0 0, .int .i64 0, .slice none 0 0, .string ⟨#[]⟩, .slice none 0 0, .string ⟨#[]⟩, .string ⟨#[]⟩, .bool false, .int .i64 0, .string ⟨#[]⟩, .slice none 0 0, .slice none 0 0, .slice none 0 0, .slice none 0 0] rfl] at h; exact h)
    have HX5 := Lib.hid ((hoth B HNP.out.2.2.2.2).trans HX4.out)
    have HK5 := Lib.hid (HK4.out.box HNP.out.2.1 hb hoth)
    have HH5 := Lib.hid (HH4.out.box hb hoth HNP.out.1.symm HNP.out.2.2.1 HNP.out.2.2.2.1)
    have HJ5 := Lib.hid HJ4.out
    have hu := und_box (B := W3.heap.size) (B' := W3.heap.size) hb hoth (blk_lt HP_3.out) (Nat.le_refl _)
    have HUx' := Lib.hid (StH.und _ _ _ _ hu HUx.out)
    clear hu HUx
    have HUx := Lib.hid HUx'.out
    clear HUx'
    clear hb hbx hoth
    have hc := need_any HH5.out wSemi (by decide)
    have HC := Lib.hid hc
    clear hc
    rcases hr : needR wSemi (ts.drop j4) with ⟨a6, l6⟩ | ⟨er, p⟩
    rotate_left
    · have HR := Lib.hid hr
      clear hr

      go_wp2_with (go_at_call 237; refine HC.out.mono ?_; rintro e W6 hp; obtain ⟨he, hk⟩ := hp.no HR.out; unfold faultE at he; subst he; have HK6 := Lib.hid (HK5.out.trans hk); clear hk hp HC)
      exact ⟨rfl, RPost.fault HK6.out (HQ.out.symm.trans (bind_no HR.out))⟩
    have HR := Lib.hid hr
    clear hr
    go_upto_region 6 with (go_at_call 237; refine HC.out.mono ?_; rintro e W6 hp; obtain ⟨hk, j6, v6, rfl, hl, hj, hrd, hv⟩ := hp.ok HR.out; subst hl; unfold VUnit at hv; subst hv; have HK6 := Lib.hid (HK5.out.trans hk); have HKK6 := Lib.hid hk; have HH6 := Lib.hid hrd; have HJ6 := Lib.hid (Nat.le_trans HJ5.out hj); have HX6 := Lib.hid (hk.kept HX5.out HBb.out.1); have HP_6 := Lib.hid (hk.kept HP_5.out HNP.out.1); clear hk hp hrd hj HC)
    have hQ := HQ.out
    unfold mapR at hQ
    rw [bind_ok HR.out] at hQ
    replace HQ := Lib.hid hQ
    clear hQ HR
    have hu := HKK6.out.und (og := none) (B := W3.heap.size) (B' := W3.heap.size) (Nat.lt_of_lt_of_le HBW.out HK3.out.size) (Nat.le_refl _)
    have HUx' := Lib.hid (StH.und _ _ _ _ hu HUx.out)
    clear hu HUx
    have HUx := Lib.hid HUx'.out
    clear HUx'
    obtain ⟨pc, pf⟩ := box_cell HP_6.out 1 (.int .i64 xq) rfl
    go_upto_region 7 with fail
    clear pc pf
    obtain ⟨W7, hW⟩ : ∃ W, W = W6.setCell ⟨P, 1, none⟩ (.int .i64 q) := ⟨_, rfl⟩
    rw [← hW]
    have hs0 := set_box21 (j := 1) (v := .int .i64 q) (cs := [.int .i64 xk, .int .i64 xq, .string xnm, .int .i64 tk, .string tn, .slice th.oa tl.length th.cap, .string pn, .slice ph.oa pp.length ph.cap, .int .i64 rk, .slice rh.oa ro.length rh.cap, .string rpn, .slice rph.oa rpp.length rph.cap, .string rn, .string rv, .bool on, .int .i64 oi, .string opn, .slice oph.oa opp.length oph.cap, .slice xht.oa xth.length xht.cap, .slice xhe.oa xel.length xhe.cap, .slice xha.oa xar.length xha.cap]) (ds := [.int .i64 xk, .int .i64 q, .string xnm, .int .i64 tk, .string tn, .slice th.oa tl.length th.cap, .string pn, .slice ph.oa pp.length ph.cap, .int .i64 rk, .slice rh.oa ro.length rh.cap, .string rpn, .slice rph.oa rpp.length rph.cap, .string rn, .string rv, .bool on, .int .i64 oi, .string opn, .slice oph.oa opp.length oph.cap, .slice xht.oa xth.length xht.cap, .slice xhe.oa xel.length xhe.cap, .slice xha.oa xar.length xha.cap]) HP_6.out rfl
    rw [← hW] at hs0
    clear hW
    have hb := hs0.1
    have hoth := hs0.2.1
    have hbx := hs0.2.2
    have HP_7 := Lib.hid (show W7.heap[P]? = some (.cells #[.int .i64 xk, .int .i64 q, .string xnm, .int .i64 tk, .string tn, .slice th.oa tl.length th.cap, .string pn, .slice ph.oa pp.length ph.cap, .int .i64 rk, .slice rh.oa ro.length rh.cap, .string rpn, .slice rph.oa rpp.length rph.cap, .string rn, .string rv, .bool on, .int .i64 oi, .string opn, .slice oph.oa opp.length oph.cap, .slice xht.oa xth.length xht.cap, .slice xhe.oa xel.length xhe.cap, .slice xha.oa xar.length xha.cap] 108) by exact hbx)
    have HX7 := Lib.hid ((hoth B HNP.out.2.2.2.2).trans HX6.out)
    have HK7 := Lib.hid (HK6.out.box HNP.out.2.1 hb hoth)
    have HH7 := Lib.hid (HH6.out.box hb hoth HNP.out.1.symm HNP.out.2.2.1 HNP.out.2.2.2.1)
    have HJ7 := Lib.hid HJ6.out
    have hu := und_box (B := W3.heap.size) (B' := W3.heap.size) hb hoth (blk_lt HP_3.out) (Nat.le_refl _)
    have HUx' := Lib.hid (StH.und _ _ _ _ hu HUx.out)
    clear hu HUx
    have HUx := Lib.hid HUx'.out
    clear HUx'
    clear hb hbx hoth
    clear hs0
    have HRP := Lib.hid (rangeAt_of_box (cs := [.int .i64 xk, .int .i64 q, .string xnm, .int .i64 tk, .string tn, .slice th.oa tl.length th.cap, .string pn, .slice ph.oa pp.length ph.cap, .int .i64 rk, .slice rh.oa ro.length rh.cap, .string rpn, .slice rph.oa rpp.length rph.cap, .string rn, .string rv, .bool on, .int .i64 oi, .string opn, .slice oph.oa opp.length oph.cap, .slice xht.oa xth.length xht.cap, .slice xhe.oa xel.length xhe.cap, .slice xha.oa xar.length xha.cap]) (t := 108) HP_7.out)
    go_wp2_with
      (first
        | (refine wpList_load_mid rfl 108 (.tmp 4) rfl P 0 rfl [.int .i64 xk, .int .i64 q, .string xnm, .int .i64 tk, .string tn, .slice th.oa tl.length th.cap, .string pn, .slice ph.oa pp.length ph.cap, .int .i64 rk, .slice rh.oa ro.length rh.cap, .string rpn, .slice rph.oa rpp.length rph.cap, .string rn, .string rv, .bool on, .int .i64 oi, .string opn, .slice oph.oa opp.length oph.cap, .slice xht.oa xth.length xht.cap, .slice xhe.oa xel.length xhe.cap, .slice xha.oa xar.length xha.cap] _ HRP.out Tryz.underlying108 rfl (by kernel_rfl) ?_)
        | (refine wpList_store_box rfl 108 (.tmp 2) (.tmp 22) rfl B 0 rfl (.agg #[.int .i64 xk, .int .i64 q, .string xnm, .int .i64 tk, .string tn, .slice th.oa tl.length th.cap, .string pn, .slice ph.oa pp.length ph.cap, .int .i64 rk, .slice rh.oa ro.length rh.cap, .string rpn, .slice rph.oa rpp.length rph.cap, .string rn, .string rv, .bool on, .int .i64 oi, .string opn, .slice oph.oa opp.length oph.cap, .slice xht.oa xth.length xht.cap, .slice xhe.oa xel.length xhe.cap, .slice xha.oa xar.length xha.cap]) rfl [.int .i64 xk, .int .i64 q, .string xnm, .int .i64 tk, .string tn, .slice th.oa tl.length th.cap, .string pn, .slice ph.oa pp.length ph.cap, .int .i64 rk, .slice rh.oa ro.length rh.cap, .string rpn, .slice rph.oa rpp.length rph.cap, .string rn, .string rv, .bool on, .int .i64 oi, .string opn, .slice oph.oa opp.length oph.cap, .slice xht.oa xth.length xht.cap, .slice xhe.oa xel.length xhe.cap, .slice xha.oa xar.length xha.cap] rfl [.int .i64 0, .int .i64 0, .string ⟨#[]⟩, .int .i64 0, .string ⟨#[]⟩, .slice none 0 0, .string ⟨#[]⟩, .slice none 0 0, .int .i64 0, .slice none 0 0, .string ⟨#[]⟩, .slice none 0 0, .string ⟨#[]⟩, .string ⟨#[]⟩, .bool false, .int .i64 0, .string ⟨#[]⟩, .slice none 0 0, .slice none 0 0, .slice none 0 0, .slice none 0 0] 108 HX7.out (Nat.le_refl _) (show (Tryz.prog.info? 108).map (·.size) = some 21 by kernel_rfl) ?c1 B (Nat.le_refl _) W7 (Below.refl _ _) ?_))
    case c1 => first | exact ⟨rfl, rfl, rfl, rfl, rfl, rfl, rfl, rfl, rfl, rfl, rfl, rfl, rfl, rfl, rfl, rfl, rfl, rfl, rfl, rfl, rfl⟩ | exact rfl | (intro v hv; simp at hv; first | (rcases hv with rfl | rfl | rfl | rfl | rfl | rfl | rfl | rfl | rfl | rfl | rfl | rfl | rfl | rfl | rfl | rfl | rfl | rfl | rfl | rfl | rfl <;> rfl) | (rcases hv with rfl | rfl | rfl | rfl | rfl | rfl | rfl | rfl | rfl | rfl | rfl | rfl | rfl | rfl | rfl | rfl | rfl | rfl | rfl | rfl <;> rfl) | (rcases hv with rfl | rfl | rfl | rfl | rfl | rfl | rfl | rfl | rfl | rfl | rfl | rfl | rfl | rfl | rfl | rfl | rfl | rfl | rfl <;> rfl) | (rcases hv with rfl | rfl | rfl | rfl | rfl | rfl | rfl | rfl | rfl | rfl | rfl | rfl | rfl | rfl | rfl | rfl | rfl | rfl <;> rfl) | (rcases hv with rfl | rfl | rfl | rfl | rfl | rfl | rfl | rfl | rfl | rfl | rfl | rfl | rfl | rfl | rfl | rfl | rfl <;> rfl) | (rcases hv with rfl | rfl | rfl | rfl | rfl | rfl | rfl | rfl | rfl | rfl | rfl | rfl | rfl | rfl | rfl | rfl <;> rfl) | (rcases hv with rfl | rfl | rfl | rfl | rfl | rfl | rfl | rfl | rfl | rfl | rfl | rfl | rfl | rfl | rfl <;> rfl) | (rcases hv with rfl | rfl | rfl | rfl | rfl | rfl | rfl | rfl | rfl | rfl | rfl | rfl | rfl | rfl <;> rfl) | (rcases hv with rfl | rfl | rfl | rfl | rfl | rfl | rfl | rfl | rfl | rfl | rfl | rfl | rfl <;> rfl) | (rcases hv with rfl | rfl | rfl | rfl | rfl | rfl | rfl | rfl | rfl | rfl | rfl | rfl <;> rfl) | (rcases hv with rfl | rfl | rfl | rfl | rfl | rfl | rfl | rfl | rfl | rfl | rfl <;> rfl) | (rcases hv with rfl | rfl | rfl | rfl | rfl | rfl | rfl | rfl | rfl | rfl <;> rfl) | (rcases hv with rfl | rfl | rfl | rfl | rfl | rfl | rfl | rfl | rfl <;> rfl) | (rcases hv with rfl | rfl | rfl | rfl | rfl | rfl | rfl | rfl <;> rfl) | (rcases hv with rfl | rfl | rfl | rfl | rfl | rfl | rfl <;> rfl) | (rcases hv with rfl | rfl | rfl | rfl | rfl | rfl <;> rfl) | (rcases hv with rfl | rfl | rfl | rfl | rfl <;> rfl) | (rcases hv with rfl | rfl | rfl | rfl <;> rfl) | (rcases hv with rfl | rfl | rfl <;> rfl) | (rcases hv with rfl | rfl <;> rfl) | (subst hv; rfl))
    intro WF hb hbx hoth
    have HF := Lib.hid (And.intro (HK7.out.box HBb.out.2.2.2 hb hoth) (HH7.out.box hb hoth HBb.out.1.symm HBb.out.2.1 HBb.out.2.2.1))
    have hu := und_box (B := W3.heap.size) (B' := w.heap.size) hb hoth (blk_lt HX3.out) HK3.out.size
    have HUxF := Lib.hid (StH.und _ _ _ _ hu HUx.out)
    clear hu
    clear hb
    have HRG := Lib.hid (rangeAt_of_box (w := WF) (b := B) (cs := [.int .i64 xk, .int .i64 q, .string xnm, .int .i64 tk, .string tn, .slice th.oa tl.length th.cap, .string pn, .slice ph.oa pp.length ph.cap, .int .i64 rk, .slice rh.oa ro.length rh.cap, .string rpn, .slice rph.oa rpp.length rph.cap, .string rn, .string rv, .bool on, .int .i64 oi, .string opn, .slice oph.oa opp.length oph.cap, .slice xht.oa xth.length xht.cap, .slice xhe.oa xel.length xhe.cap, .slice xha.oa xar.length xha.cap]) (t := 108) (by have h := hbx; rw [splL_all [.int .i64 xk, .int .i64 q, .string xnm, .int .i64 tk, .string tn, .slice th.oa tl.length th.cap, .string pn, .slice ph.oa pp.length ph.cap, .int .i64 rk, .slice rh.oa ro.length rh.cap, .string rpn, .slice rph.oa rpp.length rph.cap, .string rn, .string rv, .bool on, .int .i64 oi, .string opn, .slice oph.oa opp.length oph.cap, .slice xht.oa xth.length xht.cap, .slice xhe.oa xel.length xhe.cap, .slice xha.oa xar.length xha.cap] [.int .i64 0, .int .i64 0, .string ⟨#[]⟩, .int .i64 0, .string ⟨#[]⟩, .slice none 0 0, .string ⟨#[]⟩, .slice none 0 0, .int .i64 0, .slice none 0 0, .string ⟨#[]⟩, .slice none 0 0, .string ⟨#[]⟩, .string ⟨#[]⟩, .bool false, .int .i64 0, .string ⟨#[]⟩, .slice none 0 0, .slice none 0 0, .slice none 0 0, .slice none 0 0] rfl] at h; exact h))
    go_wp2
    exact bodyPost_ret (v := .agg #[.int .i64 xk, .int .i64 q, .string xnm, .int .i64 tk, .string tn, .slice th.oa tl.length th.cap, .string pn, .slice ph.oa pp.length ph.cap, .int .i64 rk, .slice rh.oa ro.length rh.cap, .string rpn, .slice rph.oa rpp.length rph.cap, .string rn, .string rv, .bool on, .int .i64 oi, .string opn, .slice oph.oa opp.length oph.cap, .slice xht.oa xth.length xht.cap, .slice xhe.oa xel.length xhe.cap, .slice xha.oa xar.length xha.cap]) (results_one rfl rfl HRG.out Tryz.underlying108 rfl (by kernel_rfl)) rfl (RPost.done HF.out.1 HQ.out.symm HJ7.out HF.out.2 ⟨setPos q (.mk xk xq xnm (.mk tk tn th tl) ⟨pn, ph, pp⟩ ⟨rk, rh, ro, ⟨rpn, rph, rpp⟩, rn, rv⟩ ⟨on, oi, ⟨opn, oph, opp⟩⟩ xht xth xhe xel xha xar : St5), rfl, by rw [erSt_pos, HXE.out], (HUxF.out.setPos q)⟩)
  · go_upto_region 3 with
      (first
        | (go_at_call 314; refine HC.out.mono ?_; rintro e W2 hp; obtain ⟨hk, j2, v2, rfl, hl, hj, hrd, hv⟩ := hp.ok HR.out; subst hl; obtain ⟨⟨xk, xq, xnm, ⟨tk, tn, th, tl⟩, ⟨pn, ph, pp⟩, ⟨rk, rh, ro, ⟨rpn, rph, rpp⟩, rn, rv⟩, ⟨on, oi, ⟨opn, oph, opp⟩⟩, xht, xth, xhe, xel, xha, xar⟩, rfl, hxe, hxh⟩ := hv; simp only [stV, stC, tyC, plC, rvC, opC, List.cons_append, List.nil_append]; have HXE := Lib.hid hxe; have HUx := Lib.hid hxh; clear hxe hxh; have HK2 := Lib.hid (HK1.out.trans hk); have HH2 := Lib.hid hrd; have HJ2 := Lib.hid (Nat.le_trans HJ1.out hj); have HX2 := Lib.hid (hk.kept HX1.out HBb.out.1); clear hk hp hrd hj HC)
        | (refine wpList_store_box rfl 108 (.tmp 4) (.tmp 12) rfl W2.heap.size 0 rfl (.agg #[.int .i64 xk, .int .i64 xq, .string xnm, .int .i64 tk, .string tn, .slice th.oa tl.length th.cap, .string pn, .slice ph.oa pp.length ph.cap, .int .i64 rk, .slice rh.oa ro.length rh.cap, .string rpn, .slice rph.oa rpp.length rph.cap, .string rn, .string rv, .bool on, .int .i64 oi, .string opn, .slice oph.oa opp.length oph.cap, .slice xht.oa xth.length xht.cap, .slice xhe.oa xel.length xhe.cap, .slice xha.oa xar.length xha.cap]) rfl [.int .i64 xk, .int .i64 xq, .string xnm, .int .i64 tk, .string tn, .slice th.oa tl.length th.cap, .string pn, .slice ph.oa pp.length ph.cap, .int .i64 rk, .slice rh.oa ro.length rh.cap, .string rpn, .slice rph.oa rpp.length rph.cap, .string rn, .string rv, .bool on, .int .i64 oi, .string opn, .slice oph.oa opp.length oph.cap, .slice xht.oa xth.length xht.cap, .slice xhe.oa xel.length xhe.cap, .slice xha.oa xar.length xha.cap] rfl [.int .i64 0, .int .i64 0, .string ⟨#[]⟩, .int .i64 0, .string ⟨#[]⟩, .slice none 0 0, .string ⟨#[]⟩, .slice none 0 0, .int .i64 0, .slice none 0 0, .string ⟨#[]⟩, .slice none 0 0, .string ⟨#[]⟩, .string ⟨#[]⟩, .bool false, .int .i64 0, .string ⟨#[]⟩, .slice none 0 0, .slice none 0 0, .slice none 0 0, .slice none 0 0] 108 (heap_alloc_new W2 (.cells #[.int .i64 0, .int .i64 0, .string ⟨#[]⟩, .int .i64 0, .string ⟨#[]⟩, .slice none 0 0, .string ⟨#[]⟩, .slice none 0 0, .int .i64 0, .slice none 0 0, .string ⟨#[]⟩, .slice none 0 0, .string ⟨#[]⟩, .string ⟨#[]⟩, .bool false, .int .i64 0, .string ⟨#[]⟩, .slice none 0 0, .slice none 0 0, .slice none 0 0, .slice none 0 0] 108)) (Nat.le_refl _) (show (Tryz.prog.info? 108).map (·.size) = some 21 by kernel_rfl) ?c1 W2.heap.size (Nat.le_refl _) (W2.alloc (.cells #[.int .i64 0, .int .i64 0, .string ⟨#[]⟩, .int .i64 0, .string ⟨#[]⟩, .slice none 0 0, .string ⟨#[]⟩, .slice none 0 0, .int .i64 0, .slice none 0 0, .string ⟨#[]⟩, .slice none 0 0, .string ⟨#[]⟩, .string ⟨#[]⟩, .bool false, .int .i64 0, .string ⟨#[]⟩, .slice none 0 0, .slice none 0 0, .slice none 0 0, .slice none 0 0] 108)) (Below.refl _ _) ?_; rotate_left; intro W3 hb hbx hoth))
    case c1 => first | exact ⟨rfl, rfl, rfl, rfl, rfl, rfl, rfl, rfl, rfl, rfl, rfl, rfl, rfl, rfl, rfl, rfl, rfl, rfl, rfl, rfl, rfl⟩ | exact rfl | (intro v hv; simp at hv; first | (rcases hv with rfl | rfl | rfl | rfl | rfl | rfl | rfl | rfl | rfl | rfl | rfl | rfl | rfl | rfl | rfl | rfl | rfl | rfl | rfl | rfl | rfl <;> rfl) | (rcases hv with rfl | rfl | rfl | rfl | rfl | rfl | rfl | rfl | rfl | rfl | rfl | rfl | rfl | rfl | rfl | rfl | rfl | rfl | rfl | rfl <;> rfl) | (rcases hv with rfl | rfl | rfl | rfl | rfl | rfl | rfl | rfl | rfl | rfl | rfl | rfl | rfl | rfl | rfl | rfl | rfl | rfl | rfl <;> rfl) | (rcases hv with rfl | rfl | rfl | rfl | rfl | rfl | rfl | rfl | rfl | rfl | rfl | rfl | rfl | rfl | rfl | rfl | rfl | rfl <;> rfl) | (rcases hv with rfl | rfl | rfl | rfl | rfl | rfl | rfl | rfl | rfl | rfl | rfl | rfl | rfl | rfl | rfl | rfl | rfl <;> rfl) | (rcases hv with rfl | rfl | rfl | rfl | rfl | rfl | rfl | rfl | rfl | rfl | rfl | rfl | rfl | rfl | rfl | rfl <;> rfl) | (rcases hv with rfl | rfl | rfl | rfl | rfl | rfl | rfl | rfl | rfl | rfl | rfl | rfl | rfl | rfl | rfl <;> rfl) | (rcases hv with rfl | rfl | rfl | rfl | rfl | rfl | rfl | rfl | rfl | rfl | rfl | rfl | rfl | rfl <;> rfl) | (rcases hv with rfl | rfl | rfl | rfl | rfl | rfl | rfl | rfl | rfl | rfl | rfl | rfl | rfl <;> rfl) | (rcases hv with rfl | rfl | rfl | rfl | rfl | rfl | rfl | rfl | rfl | rfl | rfl | rfl <;> rfl) | (rcases hv with rfl | rfl | rfl | rfl | rfl | rfl | rfl | rfl | rfl | rfl | rfl <;> rfl) | (rcases hv with rfl | rfl | rfl | rfl | rfl | rfl | rfl | rfl | rfl | rfl <;> rfl) | (rcases hv with rfl | rfl | rfl | rfl | rfl | rfl | rfl | rfl | rfl <;> rfl) | (rcases hv with rfl | rfl | rfl | rfl | rfl | rfl | rfl | rfl <;> rfl) | (rcases hv with rfl | rfl | rfl | rfl | rfl | rfl | rfl <;> rfl) | (rcases hv with rfl | rfl | rfl | rfl | rfl | rfl <;> rfl) | (rcases hv with rfl | rfl | rfl | rfl | rfl <;> rfl) | (rcases hv with rfl | rfl | rfl | rfl <;> rfl) | (rcases hv with rfl | rfl | rfl <;> rfl) | (rcases hv with rfl | rfl <;> rfl) | (subst hv; rfl))
    obtain ⟨O, hO⟩ : ∃ O, O = Obj.cells #[.int .i64 0, .int .i64 0, .string ⟨#[]⟩, .int .i64 0, .string ⟨#[]⟩, .slice none 0 0, .string ⟨#[]⟩, .slice none 0 0, .int .i64 0, .slice none 0 0, .string ⟨#[]⟩, .slice none 0 0, .string ⟨#[]⟩, .string ⟨#[]⟩, .bool false, .int .i64 0, .string ⟨#[]⟩, .slice none 0 0, .slice none 0 0, .slice none 0 0, .slice none 0 0] 108 := ⟨_, rfl⟩
    rw [← hO] at hb hoth
    clear hO
    obtain ⟨P, hP⟩ : ∃ P, P = W2.heap.size := ⟨_, rfl⟩
    rw [← hP] at hb hbx hoth
    simp only [← hP]
    have hal := alloc_below W2 O
    rw [← hP] at hal
    have hBP : B < P := by rw [hP]; exact blk_lt HX2.out
    have hbP : b < P := by rw [hP]; exact blk_lt HH2.out.at_
    have hgP : g < P := by rw [hP]; exact HH2.out.toks.1
    have hwP : w.heap.size ≤ P := by rw [hP]; exact HK2.out.size
    have hnP : nG ≤ P := by have := HBb.out.2.2.1; omega
    have HB2 := Lib.hid (hal.trans hb)
    have HP_3 := Lib.hid (show W3.heap[P]? = some (.cells #[.int .i64 xk, .int .i64 xq, .string xnm, .int .i64 tk, .string tn, .slice th.oa tl.length th.cap, .string pn, .slice ph.oa pp.length ph.cap, .int .i64 rk, .slice rh.oa ro.length rh.cap, .string rpn, .slice rph.oa rpp.length rph.cap, .string rn, .string rv, .bool on, .int .i64 oi, .string opn, .slice oph.oa opp.length oph.cap, .slice xht.oa xth.length xht.cap, .slice xhe.oa xel.length xhe.cap, .slice xha.oa xar.length xha.cap] 108) by have h := hbx; rw [splL_all [.int .i64 xk, .int .i64 xq, .string xnm, .int .i64 tk, .string tn, .slice th.oa tl.length th.cap, .string pn, .slice ph.oa pp.length ph.cap, .int .i64 rk, .slice rh.oa ro.length rh.cap, .string rpn, .slice rph.oa rpp.length rph.cap, .string rn, .string rv, .bool on, .int .i64 oi, .string opn, .slice oph.oa opp.length oph.cap, .slice xht.oa xth.length xht.cap, .slice xhe.oa xel.length xhe.cap, .slice xha.oa xar.length xha.cap] [.int .i64 0, .int .i64 0, .string ⟨#[]⟩, .int .i64 0, .string ⟨#[]⟩, .slice none 0 0, .string ⟨#[]⟩, .slice none 0 0, .int .i64 0, .slice none 0 0, .string ⟨#[]⟩, .slice none 0 0, .string ⟨#[]⟩, .string ⟨#[]⟩, .bool false, .int .i64 0, .string ⟨#[]⟩, .slice none 0 0, .slice none 0 0, .slice none 0 0, .slice none 0 0] rfl] at h; exact h)
    have HX3 := Lib.hid ((HB2.out.block B hBP).trans HX2.out)
    have HH3 := Lib.hid (show RdAt W3 b g cap ts j2 dp by have h1 := HH2.out; exact h1.keep (Kb.of_below (hP ▸ HB2.out)) ((HB2.out.block b hbP).trans h1.at_) h1.lt)
    have HK3 := Lib.hid (show Kb b w W3 from HK2.out.trans (Kb.of_below (hP ▸ HB2.out)))
    have HJ3 := Lib.hid HJ2.out
    have HNP := Lib.hid (show P ≠ b ∧ w.heap.size ≤ P ∧ g ≠ P ∧ nG ≤ P ∧ B ≠ P from ⟨by omega, hwP, by omega, hnP, by omega⟩)
    have HKx := Lib.hid (show Kb b W2 W3 from Kb.of_below (hP ▸ HB2.out))
    have HPW := Lib.hid (show W2.heap.size ≤ P from Nat.le_of_eq hP.symm)
    clear hal hb hbx hoth hBP hbP hgP hwP hnP HB2
    replace hP := Lib.hid hP
    obtain ⟨pc, pf⟩ := box_cell HP_3.out 1 (.int .i64 xq) rfl
    go_upto_region 7 with fail
    clear pc pf
    obtain ⟨W4, hW⟩ : ∃ W, W = W3.setCell ⟨P, 1, none⟩ (.int .i64 q) := ⟨_, rfl⟩
    rw [← hW]
    have hs0 := set_box21 (j := 1) (v := .int .i64 q) (cs := [.int .i64 xk, .int .i64 xq, .string xnm, .int .i64 tk, .string tn, .slice th.oa tl.length th.cap, .string pn, .slice ph.oa pp.length ph.cap, .int .i64 rk, .slice rh.oa ro.length rh.cap, .string rpn, .slice rph.oa rpp.length rph.cap, .string rn, .string rv, .bool on, .int .i64 oi, .string opn, .slice oph.oa opp.length oph.cap, .slice xht.oa xth.length xht.cap, .slice xhe.oa xel.length xhe.cap, .slice xha.oa xar.length xha.cap]) (ds := [.int .i64 xk, .int .i64 q, .string xnm, .int .i64 tk, .string tn, .slice th.oa tl.length th.cap, .string pn, .slice ph.oa pp.length ph.cap, .int .i64 rk, .slice rh.oa ro.length rh.cap, .string rpn, .slice rph.oa rpp.length rph.cap, .string rn, .string rv, .bool on, .int .i64 oi, .string opn, .slice oph.oa opp.length oph.cap, .slice xht.oa xth.length xht.cap, .slice xhe.oa xel.length xhe.cap, .slice xha.oa xar.length xha.cap]) HP_3.out rfl
    rw [← hW] at hs0
    clear hW
    have hb := hs0.1
    have hoth := hs0.2.1
    have hbx := hs0.2.2
    have HKy := Lib.hid (HKx.out.box HPW.out hb hoth)
    have HP_4 := Lib.hid (show W4.heap[P]? = some (.cells #[.int .i64 xk, .int .i64 q, .string xnm, .int .i64 tk, .string tn, .slice th.oa tl.length th.cap, .string pn, .slice ph.oa pp.length ph.cap, .int .i64 rk, .slice rh.oa ro.length rh.cap, .string rpn, .slice rph.oa rpp.length rph.cap, .string rn, .string rv, .bool on, .int .i64 oi, .string opn, .slice oph.oa opp.length oph.cap, .slice xht.oa xth.length xht.cap, .slice xhe.oa xel.length xhe.cap, .slice xha.oa xar.length xha.cap] 108) by exact hbx)
    have HX4 := Lib.hid ((hoth B HNP.out.2.2.2.2).trans HX3.out)
    have HK4 := Lib.hid (HK3.out.box HNP.out.2.1 hb hoth)
    have HH4 := Lib.hid (HH3.out.box hb hoth HNP.out.1.symm HNP.out.2.2.1 HNP.out.2.2.2.1)
    have HJ4 := Lib.hid HJ3.out
    clear hb hbx hoth
    clear hs0
    have HRP := Lib.hid (rangeAt_of_box (cs := [.int .i64 xk, .int .i64 q, .string xnm, .int .i64 tk, .string tn, .slice th.oa tl.length th.cap, .string pn, .slice ph.oa pp.length ph.cap, .int .i64 rk, .slice rh.oa ro.length rh.cap, .string rpn, .slice rph.oa rpp.length rph.cap, .string rn, .string rv, .bool on, .int .i64 oi, .string opn, .slice oph.oa opp.length oph.cap, .slice xht.oa xth.length xht.cap, .slice xhe.oa xel.length xhe.cap, .slice xha.oa xar.length xha.cap]) (t := 108) HP_4.out)
    go_wp2_with
      (first
        | (refine wpList_load_mid rfl 108 (.tmp 4) rfl P 0 rfl [.int .i64 xk, .int .i64 q, .string xnm, .int .i64 tk, .string tn, .slice th.oa tl.length th.cap, .string pn, .slice ph.oa pp.length ph.cap, .int .i64 rk, .slice rh.oa ro.length rh.cap, .string rpn, .slice rph.oa rpp.length rph.cap, .string rn, .string rv, .bool on, .int .i64 oi, .string opn, .slice oph.oa opp.length oph.cap, .slice xht.oa xth.length xht.cap, .slice xhe.oa xel.length xhe.cap, .slice xha.oa xar.length xha.cap] _ HRP.out Tryz.underlying108 rfl (by kernel_rfl) ?_)
        | (refine wpList_store_box rfl 108 (.tmp 2) (.tmp 22) rfl B 0 rfl (.agg #[.int .i64 xk, .int .i64 q, .string xnm, .int .i64 tk, .string tn, .slice th.oa tl.length th.cap, .string pn, .slice ph.oa pp.length ph.cap, .int .i64 rk, .slice rh.oa ro.length rh.cap, .string rpn, .slice rph.oa rpp.length rph.cap, .string rn, .string rv, .bool on, .int .i64 oi, .string opn, .slice oph.oa opp.length oph.cap, .slice xht.oa xth.length xht.cap, .slice xhe.oa xel.length xhe.cap, .slice xha.oa xar.length xha.cap]) rfl [.int .i64 xk, .int .i64 q, .string xnm, .int .i64 tk, .string tn, .slice th.oa tl.length th.cap, .string pn, .slice ph.oa pp.length ph.cap, .int .i64 rk, .slice rh.oa ro.length rh.cap, .string rpn, .slice rph.oa rpp.length rph.cap, .string rn, .string rv, .bool on, .int .i64 oi, .string opn, .slice oph.oa opp.length oph.cap, .slice xht.oa xth.length xht.cap, .slice xhe.oa xel.length xhe.cap, .slice xha.oa xar.length xha.cap] rfl [.int .i64 0, .int .i64 0, .string ⟨#[]⟩, .int .i64 0, .string ⟨#[]⟩, .slice none 0 0, .string ⟨#[]⟩, .slice none 0 0, .int .i64 0, .slice none 0 0, .string ⟨#[]⟩, .slice none 0 0, .string ⟨#[]⟩, .string ⟨#[]⟩, .bool false, .int .i64 0, .string ⟨#[]⟩, .slice none 0 0, .slice none 0 0, .slice none 0 0, .slice none 0 0] 108 HX4.out (Nat.le_refl _) (show (Tryz.prog.info? 108).map (·.size) = some 21 by kernel_rfl) ?c1 B (Nat.le_refl _) W4 (Below.refl _ _) ?_))
    case c1 => first | exact ⟨rfl, rfl, rfl, rfl, rfl, rfl, rfl, rfl, rfl, rfl, rfl, rfl, rfl, rfl, rfl, rfl, rfl, rfl, rfl, rfl, rfl⟩ | exact rfl | (intro v hv; simp at hv; first | (rcases hv with rfl | rfl | rfl | rfl | rfl | rfl | rfl | rfl | rfl | rfl | rfl | rfl | rfl | rfl | rfl | rfl | rfl | rfl | rfl | rfl | rfl <;> rfl) | (rcases hv with rfl | rfl | rfl | rfl | rfl | rfl | rfl | rfl | rfl | rfl | rfl | rfl | rfl | rfl | rfl | rfl | rfl | rfl | rfl | rfl <;> rfl) | (rcases hv with rfl | rfl | rfl | rfl | rfl | rfl | rfl | rfl | rfl | rfl | rfl | rfl | rfl | rfl | rfl | rfl | rfl | rfl | rfl <;> rfl) | (rcases hv with rfl | rfl | rfl | rfl | rfl | rfl | rfl | rfl | rfl | rfl | rfl | rfl | rfl | rfl | rfl | rfl | rfl | rfl <;> rfl) | (rcases hv with rfl | rfl | rfl | rfl | rfl | rfl | rfl | rfl | rfl | rfl | rfl | rfl | rfl | rfl | rfl | rfl | rfl <;> rfl) | (rcases hv with rfl | rfl | rfl | rfl | rfl | rfl | rfl | rfl | rfl | rfl | rfl | rfl | rfl | rfl | rfl | rfl <;> rfl) | (rcases hv with rfl | rfl | rfl | rfl | rfl | rfl | rfl | rfl | rfl | rfl | rfl | rfl | rfl | rfl | rfl <;> rfl) | (rcases hv with rfl | rfl | rfl | rfl | rfl | rfl | rfl | rfl | rfl | rfl | rfl | rfl | rfl | rfl <;> rfl) | (rcases hv with rfl | rfl | rfl | rfl | rfl | rfl | rfl | rfl | rfl | rfl | rfl | rfl | rfl <;> rfl) | (rcases hv with rfl | rfl | rfl | rfl | rfl | rfl | rfl | rfl | rfl | rfl | rfl | rfl <;> rfl) | (rcases hv with rfl | rfl | rfl | rfl | rfl | rfl | rfl | rfl | rfl | rfl | rfl <;> rfl) | (rcases hv with rfl | rfl | rfl | rfl | rfl | rfl | rfl | rfl | rfl | rfl <;> rfl) | (rcases hv with rfl | rfl | rfl | rfl | rfl | rfl | rfl | rfl | rfl <;> rfl) | (rcases hv with rfl | rfl | rfl | rfl | rfl | rfl | rfl | rfl <;> rfl) | (rcases hv with rfl | rfl | rfl | rfl | rfl | rfl | rfl <;> rfl) | (rcases hv with rfl | rfl | rfl | rfl | rfl | rfl <;> rfl) | (rcases hv with rfl | rfl | rfl | rfl | rfl <;> rfl) | (rcases hv with rfl | rfl | rfl | rfl <;> rfl) | (rcases hv with rfl | rfl | rfl <;> rfl) | (rcases hv with rfl | rfl <;> rfl) | (subst hv; rfl))
    intro WF hb hbx hoth
    have HF := Lib.hid (And.intro (HK4.out.box HBb.out.2.2.2 hb hoth) (HH4.out.box hb hoth HBb.out.1.symm HBb.out.2.1 HBb.out.2.2.1))
    have hu := (HKy.out.und (og := none) (B := W1.heap.size) (B' := W1.heap.size) (Nat.lt_of_lt_of_le HBW.out HK1.out.size) (Nat.le_refl _)).trans (und_box (B := W1.heap.size) (B' := w.heap.size) hb hoth (blk_lt HX1.out) HK1.out.size)
    have HUxF := Lib.hid (StH.und _ _ _ _ hu HUx.out)
    clear hu
    clear hb
    have HRG := Lib.hid (rangeAt_of_box (w := WF) (b := B) (cs := [.int .i64 xk, .int .i64 q, .string xnm, .int .i64 tk, .string tn, .slice th.oa tl.length th.cap, .string pn, .slice ph.oa pp.length ph.cap, .int .i64 rk, .slice rh.oa ro.length rh.cap, .string rpn, .slice rph.oa rpp.length rph.cap, .string rn, .string rv, .bool on, .int .i64 oi, .string opn, .slice oph.oa opp.length oph.cap, .slice xht.oa xth.length xht.cap, .slice xhe.oa xel.length xhe.cap, .slice xha.oa xar.length xha.cap]) (t := 108) (by have h := hbx; rw [splL_all [.int .i64 xk, .int .i64 q, .string xnm, .int .i64 tk, .string tn, .slice th.oa tl.length th.cap, .string pn, .slice ph.oa pp.length ph.cap, .int .i64 rk, .slice rh.oa ro.length rh.cap, .string rpn, .slice rph.oa rpp.length rph.cap, .string rn, .string rv, .bool on, .int .i64 oi, .string opn, .slice oph.oa opp.length oph.cap, .slice xht.oa xth.length xht.cap, .slice xhe.oa xel.length xhe.cap, .slice xha.oa xar.length xha.cap] [.int .i64 0, .int .i64 0, .string ⟨#[]⟩, .int .i64 0, .string ⟨#[]⟩, .slice none 0 0, .string ⟨#[]⟩, .slice none 0 0, .int .i64 0, .slice none 0 0, .string ⟨#[]⟩, .slice none 0 0, .string ⟨#[]⟩, .string ⟨#[]⟩, .bool false, .int .i64 0, .string ⟨#[]⟩, .slice none 0 0, .slice none 0 0, .slice none 0 0, .slice none 0 0] rfl] at h; exact h))
    go_wp2
    exact bodyPost_ret (v := .agg #[.int .i64 xk, .int .i64 q, .string xnm, .int .i64 tk, .string tn, .slice th.oa tl.length th.cap, .string pn, .slice ph.oa pp.length ph.cap, .int .i64 rk, .slice rh.oa ro.length rh.cap, .string rpn, .slice rph.oa rpp.length rph.cap, .string rn, .string rv, .bool on, .int .i64 oi, .string opn, .slice oph.oa opp.length oph.cap, .slice xht.oa xth.length xht.cap, .slice xhe.oa xel.length xhe.cap, .slice xha.oa xar.length xha.cap]) (results_one rfl rfl HRG.out Tryz.underlying108 rfl (by kernel_rfl)) rfl (RPost.done HF.out.1 HQ.out.symm HJ4.out HF.out.2 ⟨setPos q (.mk xk xq xnm (.mk tk tn th tl) ⟨pn, ph, pp⟩ ⟨rk, rh, ro, ⟨rpn, rph, rpp⟩, rn, rv⟩ ⟨on, oi, ⟨opn, oph, opp⟩⟩ xht xth xhe xel xha xar : St5), rfl, by rw [erSt_pos, HXE.out], (HUxF.out.setPos q)⟩)
end Go.Proofs.YtggdpgaedmegbaaGreatDoor
