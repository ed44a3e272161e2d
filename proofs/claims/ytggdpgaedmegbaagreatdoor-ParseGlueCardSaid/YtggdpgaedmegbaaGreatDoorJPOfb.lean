/-
  Statements that end with a block, or with arms; over a contract of block. Conditions: the reader lies in the heap; what a block's reading comes to.
-/
import Derived.Test.YtggdpgaedmegbaaGreatDoorJPStm
import Derived.Test.YtggdpgaedmegbaaGreatDoorJPPlain
import Derived.Test.YtggdpgaedmegbaaGreatDoorJPArm
namespace Go.Proofs.YtggdpgaedmegbaaGreatDoor
open Go.RowKit

theorem box_cell {w : World} {P : Nat} {cs : List Value} {t : TypeId} (h : w.heap[P]? = some (.cells cs.toArray t)) (j : Nat) (v : Value) (hv : cs[j]? = some v) : w.cell? ⟨P, j, none⟩ = some v ∧ w.frozen? ⟨P, j, none⟩ = false :=
  ⟨by simp [World.cell?, h, hv], by simp [World.frozen?, h]⟩
theorem set_box21 {w : World} {P j : Nat} {v : Value} {cs ds : List Value} {t : TypeId} (h : w.heap[P]? = some (.cells cs.toArray t)) (hd : cs.set j v = ds) :
    Below P w (w.setCell ⟨P, j, none⟩ v) ∧ (∀ x, x ≠ P → (w.setCell ⟨P, j, none⟩ v).heap[x]? = w.heap[x]?) ∧ (w.setCell ⟨P, j, none⟩ v).heap[P]? = some (.cells ds.toArray t) := by
  obtain ⟨h1, h2, h3⟩ := set_box (j := j) (v := v) h
  refine ⟨h1, h2, ?_⟩
  rw [h3, ← hd]
  simp
set_option maxRecDepth 100000 in
set_option maxHeartbeats 40000000 in
theorem r_ofb {w : World} {b g cap : Nat} {ts : List Tok} {i dp : Nat} (H : RdAt w b g cap ts i dp) {n : Nat} (blk : Rd (List St5)) (hblk : Ru1 true true blk) (hBk : ∀ (w : World) (i : Nat), RdAt w b g cap ts i dp → Calls Tryz.prog 243 #[.pointer (some ⟨b, 0, none⟩)] w (RPost w b g cap ts i dp (blk (ts.drop i)) (VRow 21 stC erSt (StH (n + 61))))) :
    Calls Tryz.prog 314 #[.pointer (some ⟨b, 0, none⟩)] w (RPost w b g cap ts i dp (ofBlocksR blk (ts.drop i)) (VOB (n + 63))) := by
  obtain ⟨r, hQ⟩ : ∃ r, ofBlocksR blk (ts.drop i) = r := ⟨_, rfl⟩
  rw [hQ]
  have HQ := Lib.hid hQ
  clear hQ
  have HGB := Lib.hid (And.intro H.toks.1 H.vars.size)
  have HBW := Lib.hid (show b < w.heap.size from (Array.getElem?_eq_some_iff.1 H.at_).1)
  have HJ0 := Lib.hid (Nat.le_refl i)
  obtain ⟨W0, hW⟩ : ∃ W0, W0 = w.alloc (.cells #[.int .i64 0, .int .i64 0, .string ⟨#[]⟩, .int .i64 0, .string ⟨#[]⟩, .slice none 0 0, .string ⟨#[]⟩, .slice none 0 0, .int .i64 0, .slice none 0 0, .string ⟨#[]⟩, .slice none 0 0, .string ⟨#[]⟩, .string ⟨#[]⟩, .bool false, .int .i64 0, .string ⟨#[]⟩, .slice none 0 0, .slice none 0 0, .slice none 0 0, .slice none 0 0] 108) := ⟨_, rfl⟩
  have hbW : Below w.heap.size w W0 := by rw [hW]; exact alloc_below _ _
  have hx0 : W0.heap[w.heap.size]? = some (.cells #[.int .i64 0, .int .i64 0, .string ⟨#[]⟩, .int .i64 0, .string ⟨#[]⟩, .slice none 0 0, .string ⟨#[]⟩, .slice none 0 0, .int .i64 0, .slice none 0 0, .string ⟨#[]⟩, .slice none 0 0, .string ⟨#[]⟩, .string ⟨#[]⟩, .bool false, .int .i64 0, .string ⟨#[]⟩, .slice none 0 0, .slice none 0 0, .slice none 0 0, .slice none 0 0] 108) := by rw [hW, heap_alloc_new]
  have HH0 := Lib.hid (H.under hbW)
  have HK0 := Lib.hid (Kb.of_below (b := b) hbW)
  obtain ⟨B, hB⟩ : ∃ B, B = w.heap.size := ⟨_, rfl⟩
  rw [← hB] at hx0
  have HX0 := Lib.hid hx0
  clear hbW hx0 H
  go_enter Tryz.func314, Tryz.ntmps314
  go_upto_region 1 with fail
  rw [← hW]
  simp only [← hB]
  clear hW
  have HBb := Lib.hid (show B ≠ b ∧ g ≠ B ∧ nG ≤ B ∧ w.heap.size ≤ B by have h1 := HBW.out; have h2 := HGB.out; rw [hB]; exact ⟨by omega, by omega, h2.2, Nat.le_refl _⟩)
  replace hB := Lib.hid hB
  have HBk := Lib.hid hBk
  have HRB := Lib.hid hblk
  clear hBk hblk
  obtain ⟨P, hP⟩ : ∃ P, P = W0.heap.size := ⟨_, rfl⟩
  obtain ⟨W1, hW⟩ : ∃ W1, W1 = W0.alloc (.cells #[.int .i64 0, .int .i64 0, .string ⟨#[]⟩, .int .i64 0, .string ⟨#[]⟩, .slice none 0 0, .string ⟨#[]⟩, .slice none 0 0, .int .i64 0, .slice none 0 0, .string ⟨#[]⟩, .slice none 0 0, .string ⟨#[]⟩, .string ⟨#[]⟩, .bool false, .int .i64 0, .string ⟨#[]⟩, .slice none 0 0, .slice none 0 0, .slice none 0 0, .slice none 0 0] 108) := ⟨_, rfl⟩
  have hal : Below W0.heap.size W0 W1 := by rw [hW]; exact alloc_below _ _
  have hx1 : W1.heap[W0.heap.size]? = some (.cells #[.int .i64 0, .int .i64 0, .string ⟨#[]⟩, .int .i64 0, .string ⟨#[]⟩, .slice none 0 0, .string ⟨#[]⟩, .slice none 0 0, .int .i64 0, .slice none 0 0, .string ⟨#[]⟩, .slice none 0 0, .string ⟨#[]⟩, .string ⟨#[]⟩, .bool false, .int .i64 0, .string ⟨#[]⟩, .slice none 0 0, .slice none 0 0, .slice none 0 0, .slice none 0 0] 108) := by rw [hW, heap_alloc_new]
  rw [← hP] at hx1
  have hBP : B < P := by rw [hP]; exact blk_lt HX0.out
  have hbP : b < P := by rw [hP]; exact blk_lt HH0.out.at_
  have hgP : g < P := by rw [hP]; exact HH0.out.toks.1
  have hwP : w.heap.size ≤ P := by rw [hP]; exact HK0.out.size
  have hnP : nG ≤ P := by have := HBb.out.2.2.1; omega
  have HP_1 := Lib.hid hx1
  have HX1 := Lib.hid ((hal.block B (hP ▸ hBP)).trans HX0.out)
  have HH1 := Lib.hid (HH0.out.under hal)
  have HK1 := Lib.hid (HK0.out.trans (Kb.of_below hal))
  have HJ1 := Lib.hid HJ0.out
  have HNP := Lib.hid (show P ≠ b ∧ w.heap.size ≤ P ∧ g ≠ P ∧ nG ≤ P ∧ B ≠ P from ⟨by omega, hwP, by omega, hnP, by omega⟩)
  clear hx1 hal hBP hbP hgP hwP hnP
  go_upto_region 3 with fail
  rw [← hW]
  simp only [← hP]
  replace hP := Lib.hid hP
  clear hW
  obtain ⟨t2, ht2, hh, -⟩ := HH1.out.tok
  have htk := takes_any HH1.out ht2 wIf (by decide)
  have HTK := Lib.hid htk
  have HT2 := Lib.hid ht2
  clear htk hh ht2
  by_cases hts : t2.text = wIf
  · have HS := Lib.hid hts
    clear hts
    go_upto_region 4 with (go_at_call 172; refine HTK.out.mono ?_; rintro e W2 ⟨h1, -⟩; obtain ⟨rfl, hk, hrd⟩ := h1 HS.out; have HK2 := Lib.hid (HK1.out.trans hk); have HH2 := Lib.hid hrd; have HJ2 := Lib.hid (Nat.le_succ_of_le HJ1.out); have HX2 := Lib.hid (hk.kept HX1.out HBb.out.1); have HP_2 := Lib.hid (hk.kept HP_1.out HNP.out.1); have HKK2 := Lib.hid hk; clear h1 hk hrd HTK)
    have hQ := HQ.out
    unfold ofBlocksR at hQ
    rw [opt_yes HH1.out HT2.out HS.out] at hQ
    replace HQ := Lib.hid hQ
    clear hQ HS
    go_upto_region 5 with
      (first
        | (go_at_call 327
           refine (r_oper HH2.out).mono ?_
           rintro e W3 hp
           rcases hr3 : operR (ts.drop (i + 1)) with ⟨a3, l3⟩ | ⟨er, p⟩
           rotate_left
           · obtain ⟨he, hk⟩ := hp.no hr3
             unfold faultE at he
             subst he
             exact ⟨rfl, RPost.fault (HK2.out.trans hk) (HQ.out.symm.trans (bind_no hr3))⟩
           obtain ⟨hk, j3, v3, rfl, hl, hj, hrd, hv⟩ := hp.ok hr3
           subst hl
           obtain ⟨⟨xb, xi, ⟨xn, xh, xp⟩⟩, rfl, rfl, hp0⟩ := hv
           simp only [opV, opC, plC, List.cons_append, List.nil_append]
           have HUo := Lib.hid hp0
           clear hp0
           have HR3 := Lib.hid hr3
           have HK3 := Lib.hid (HK2.out.trans hk)
           have HH3 := Lib.hid hrd
           have HJ3 := Lib.hid (Nat.le_trans HJ2.out hj)
           have HX3 := Lib.hid (hk.kept HX2.out HBb.out.1)
           have HP_3 := Lib.hid (hk.kept HP_2.out HNP.out.1)
           clear hk hp hrd hj hr3)
        | (go_at_call 243
           refine (HBk.out _ _ HH3.out).mono ?_
           rintro e W4 hp
           rcases hr4 : blk (ts.drop j3) with ⟨a4, l4⟩ | ⟨er, p⟩
           rotate_left
           · obtain ⟨he, hk⟩ := hp.no hr4
             unfold faultE at he
             subst he
             exact ⟨rfl, RPost.fault (HK3.out.trans hk) (by have h := HQ.out; rw [bind_ok HR3.out, bind_no hr4] at h; exact h.symm)⟩
           obtain ⟨hk, j4, v4, rfl, hl, hj, hrd, hv⟩ := hp.ok hr4
           subst hl
           obtain ⟨th, tl, rfl, haet, hpt⟩ := hv
           have HEt := Lib.hid haet
           have HUt := Lib.hid hpt
           clear haet hpt
           have hu := hk.und (og := none) (B := W2.heap.size) (B' := W2.heap.size) (Nat.lt_of_lt_of_le HBW.out HK2.out.size) (Nat.le_refl _)
           have HUo' := Lib.hid (OpH.und _ _ _ hu HUo.out)
           clear hu HUo
           have HUo := Lib.hid HUo'.out
           clear HUo'
           have HR4 := Lib.hid hr4
           have HK4 := Lib.hid (HK3.out.trans hk)
           have HH4 := Lib.hid hrd
           have HJ4 := Lib.hid (Nat.le_trans HJ3.out hj)
           have HX4 := Lib.hid (hk.kept HX3.out HBb.out.1)
           have HP_4 := Lib.hid (hk.kept HP_3.out HNP.out.1)
           clear hk hp hrd hj hr4)
        | (refine wpList_store_box rfl 108 (.tmp 4) (.tmp 13) rfl P 0 rfl (.agg #[.int .i64 2, .int .i64 0, .string ⟨#[]⟩, .int .i64 0, .string ⟨#[]⟩, .slice none 0 0, .string ⟨#[]⟩, .slice none 0 0, .int .i64 0, .slice none 0 0, .string ⟨#[]⟩, .slice none 0 0, .string ⟨#[]⟩, .string ⟨#[]⟩, .bool xb, .int .i64 xi, .string xn, .slice xh.oa xp.length xh.cap, .slice th.oa tl.length th.cap, .slice none 0 0, .slice none 0 0]) rfl [.int .i64 2, .int .i64 0, .string ⟨#[]⟩, .int .i64 0, .string ⟨#[]⟩, .slice none 0 0, .string ⟨#[]⟩, .slice none 0 0, .int .i64 0, .slice none 0 0, .string ⟨#[]⟩, .slice none 0 0, .string ⟨#[]⟩, .string ⟨#[]⟩, .bool xb, .int .i64 xi, .string xn, .slice xh.oa xp.length xh.cap, .slice th.oa tl.length th.cap, .slice none 0 0, .slice none 0 0] rfl [.int .i64 0, .int .i64 0, .string ⟨#[]⟩, .int .i64 0, .string ⟨#[]⟩, .slice none 0 0, .string ⟨#[]⟩, .slice none 0 0, .int .i64 0, .slice none 0 0, .string ⟨#[]⟩, .slice none 0 0, .string ⟨#[]⟩, .string ⟨#[]⟩, .bool false, .int .i64 0, .string ⟨#[]⟩, .slice none 0 0, .slice none 0 0, .slice none 0 0, .slice none 0 0] 108 HP_4.out (Nat.le_refl _) (show (Tryz.prog.info? 108).map (·.size) = some 21 by kernel_rfl) ?c1 P (Nat.le_refl _) W4 (Below.refl _ _) ?_; rotate_left; intro W5 hb hbx hoth))
    case c1 => first | exact ⟨rfl, rfl, rfl, rfl, rfl, rfl, rfl, rfl, rfl, rfl, rfl, rfl, rfl, rfl, rfl, rfl, rfl, rfl, rfl, rfl, rfl⟩ | exact rfl | (intro v hv; simp at hv; first | (rcases hv with rfl | rfl | rfl | rfl | rfl | rfl | rfl | rfl | rfl | rfl | rfl | rfl | rfl | rfl | rfl | rfl | rfl | rfl | rfl | rfl | rfl <;> rfl) | (rcases hv with rfl | rfl | rfl | rfl | rfl | rfl | rfl | rfl | rfl | rfl | rfl | rfl | rfl | rfl | rfl | rfl | rfl | rfl | rfl | rfl <;> rfl) | (rcases hv with rfl | rfl | rfl | rfl | rfl | rfl | rfl | rfl | rfl | rfl | rfl | rfl | rfl | rfl | rfl | rfl | rfl | rfl | rfl <;> rfl) | (rcases hv with rfl | rfl | rfl | rfl | rfl | rfl | rfl | rfl | rfl | rfl | rfl | rfl | rfl | rfl | rfl | rfl | rfl | rfl <;> rfl) | (rcases hv with rfl | rfl | rfl | rfl | rfl | rfl | rfl | rfl | rfl | rfl | rfl | rfl | rfl | rfl | rfl | rfl | rfl <;> rfl) | (rcases hv with rfl | rfl | rfl | rfl | rfl | rfl | rfl | rfl | rfl | rfl | rfl | rfl | rfl | rfl | rfl | rfl <;> rfl) | (rcases hv with rfl | rfl | rfl | rfl | rfl | rfl | rfl | rfl | rfl | rfl | rfl | rfl | rfl | rfl | rfl <;> rfl) | (rcases hv with rfl | rfl | rfl | rfl | rfl | rfl | rfl | rfl | rfl | rfl | rfl | rfl | rfl | rfl <;> rfl) | (rcases hv with rfl | rfl | rfl | rfl | rfl | rfl | rfl | rfl | rfl | rfl | rfl | rfl | rfl <;> rfl) | (rcases hv with rfl | rfl | rfl | rfl | rfl | rfl | rfl | rfl | rfl | rfl | rfl | rfl <;> rfl) | (rcases hv with rfl | rfl | rfl | rfl | rfl | rfl | rfl | rfl | rfl | rfl | rfl <;> rfl) | (rcases hv with rfl | rfl | rfl | rfl | rfl | rfl | rfl | rfl | rfl | rfl <;> rfl) | (rcases hv with rfl | rfl | rfl | rfl | rfl | rfl | rfl | rfl | rfl <;> rfl) | (rcases hv with rfl | rfl | rfl | rfl | rfl | rfl | rfl | rfl <;> rfl) | (rcases hv with rfl | rfl | rfl | rfl | rfl | rfl | rfl <;> rfl) | (rcases hv with rfl | rfl | rfl | rfl | rfl | rfl <;> rfl) | (rcases hv with rfl | rfl | rfl | rfl | rfl <;> rfl) | (rcases hv with rfl | rfl | rfl | rfl <;> rfl) | (rcases hv with rfl | rfl | rfl <;> rfl) | (rcases hv with rfl | rfl <;> rfl) | (subst hv; rfl))
    have hQ := HQ.out
    rw [bind_ok HR3.out, bind_ok HR4.out] at hQ
    replace HQ := Lib.hid hQ
    clear hQ
    have HP_5 := Lib.hid (show W5.heap[P]? = some (.cells #[.int .i64 2, .int .i64 0, .string ⟨#[]⟩, .int .i64 0, .string ⟨#[]⟩, .slice none 0 0, .string ⟨#[]⟩, .slice none 0 0, .int .i64 0, .slice none 0 0, .string ⟨#[]⟩, .slice none 0 0, .string ⟨#[]⟩, .string ⟨#[]⟩, .bool xb, .int .i64 xi, .string xn, .slice xh.oa xp.length xh.cap, .slice th.oa tl.length th.cap, .slice none 0 0, .slice none 0 0] 108) by have h := hbx; rw [splL_all [.int .i64 2, .int .i64 0, .string ⟨#[]⟩, .int .i64 0, .string ⟨#[]⟩, .slice none 0 0, .string ⟨#[]⟩, .slice none 0 0, .int .i64 0, .slice none 0 0, .string ⟨#[]⟩, .slice none 0 0, .string ⟨#[]⟩, .string ⟨#[]⟩, .bool xb, .int .i64 xi, .string xn, .slice xh.oa xp.length xh.cap, .slice th.oa tl.length th.cap, .slice none 0 0, .slice none 0 0] [.int .i64 0, .int .i64 0, .string ⟨#[]⟩, .int .i64 0, .string ⟨#[]⟩, .slice none 0 0, .string ⟨#[]⟩, .slice none 0 0, .int .i64 0, .slice none 0 0, .string ⟨#[]⟩, .slice none 0 0, .string ⟨#[]⟩, .string ⟨#[]⟩, .bool false, .int .i64 0, .string ⟨#[]⟩, .slice none 0 0, .slice none 0 0, .slice none 0 0, .slice none 0 0] rfl] at h; exact h)
    have HX5 := Lib.hid ((hoth B HNP.out.2.2.2.2).trans HX4.out)
    have HK5 := Lib.hid (HK4.out.box HNP.out.2.1 hb hoth)
    have HH5 := Lib.hid (HH4.out.box hb hoth HNP.out.1.symm HNP.out.2.2.1 HNP.out.2.2.2.1)
    have HJ5 := Lib.hid HJ4.out
    have hu := und_box (B := W2.heap.size) (B' := W2.heap.size) hb hoth (blk_lt HP_2.out) (Nat.le_refl _)
    have HUo' := Lib.hid (OpH.und _ _ _ hu HUo.out)
    clear hu HUo
    have HUo := Lib.hid HUo'.out
    clear HUo'
    have hu := und_box (B := W3.heap.size) (B' := W3.heap.size) hb hoth (blk_lt HP_3.out) (Nat.le_refl _)
    have HUt' := Lib.hid (Row.und HUt.out hu fun _ _ hx => StH.und _ _ _ _ hu hx)
    clear hu HUt
    have HUt := Lib.hid HUt'.out
    clear HUt'
    clear hb hbx hoth
    obtain ⟨t6, ht6, hh, -⟩ := HH5.out.tok
    have htk := takes_any HH5.out ht6 wElse (by decide)
    have HTK := Lib.hid htk
    have HT6 := Lib.hid ht6
    clear htk hh ht6
    by_cases hts : t6.text = wElse
    · have HS := Lib.hid hts
      clear hts
      go_upto_region 6 with (go_at_call 172; refine HTK.out.mono ?_; rintro e W6 ⟨h1, -⟩; obtain ⟨rfl, hk, hrd⟩ := h1 HS.out; have HK6 := Lib.hid (HK5.out.trans hk); have HH6 := Lib.hid hrd; have HJ6 := Lib.hid (Nat.le_succ_of_le HJ5.out); have HX6 := Lib.hid (hk.kept HX5.out HBb.out.1); have HP_6 := Lib.hid (hk.kept HP_5.out HNP.out.1); have HKK6 := Lib.hid hk; clear h1 hk hrd HTK)
      have hQ := HQ.out
      rw [opt_yes HH5.out HT6.out HS.out] at hQ
      replace HQ := Lib.hid hQ
      clear hQ HS
      have hu := HKK6.out.und (og := none) (B := W2.heap.size) (B' := W2.heap.size) (Nat.lt_of_lt_of_le HBW.out HK2.out.size) (Nat.le_refl _)
      have HUo' := Lib.hid (OpH.und _ _ _ hu HUo.out)
      clear hu HUo
      have HUo := Lib.hid HUo'.out
      clear HUo'
      have hu := HKK6.out.und (og := none) (B := W3.heap.size) (B' := W3.heap.size) (Nat.lt_of_lt_of_le HBW.out HK3.out.size) (Nat.le_refl _)
      have HUt' := Lib.hid (Row.und HUt.out hu fun _ _ hx => StH.und _ _ _ _ hu hx)
      clear hu HUt
      have HUt := Lib.hid HUt'.out
      clear HUt'
      have hc := HBk.out _ _ HH6.out
      have HC := Lib.hid hc
      clear hc
      rcases hr : blk (ts.drop (j4 + 1)) with ⟨a7, l7⟩ | ⟨er, p⟩
      rotate_left
      · have HR := Lib.hid hr
        clear hr

        go_wp2_with (go_at_call 243; refine HC.out.mono ?_; rintro e W7 hp; obtain ⟨he, hk⟩ := hp.no HR.out; unfold faultE at he; subst he; have HK7 := Lib.hid (HK6.out.trans hk); clear hk hp HC)
        exact ⟨rfl, RPost.fault HK7.out (HQ.out.symm.trans (bind_no HR.out))⟩
      have HR := Lib.hid hr
      clear hr
      go_upto_region 13 with (go_at_call 243; refine HC.out.mono ?_; rintro e W7 hp; obtain ⟨hk, j7, v7, rfl, hl, hj, hrd, hv⟩ := hp.ok HR.out; subst hl; obtain ⟨eh, el, rfl, haee, hpe⟩ := hv; have HEe := Lib.hid haee; have HUe := Lib.hid hpe; clear haee hpe; have HK7 := Lib.hid (HK6.out.trans hk); have HKK7 := Lib.hid hk; have HH7 := Lib.hid hrd; have HJ7 := Lib.hid (Nat.le_trans HJ6.out hj); have HX7 := Lib.hid (hk.kept HX6.out HBb.out.1); have HP_7 := Lib.hid (hk.kept HP_6.out HNP.out.1); clear hk hp hrd hj HC; obtain ⟨pc, pf⟩ := box_cell HP_7.out 19 (.slice none 0 0) rfl)
      clear pc pf
      have hu := HKK7.out.und (og := none) (B := W2.heap.size) (B' := W2.heap.size) (Nat.lt_of_lt_of_le HBW.out HK2.out.size) (Nat.le_refl _)
      have HUo' := Lib.hid (OpH.und _ _ _ hu HUo.out)
      clear hu HUo
      have HUo := Lib.hid HUo'.out
      clear HUo'
      have hu := HKK7.out.und (og := none) (B := W3.heap.size) (B' := W3.heap.size) (Nat.lt_of_lt_of_le HBW.out HK3.out.size) (Nat.le_refl _)
      have HUt' := Lib.hid (Row.und HUt.out hu fun _ _ hx => StH.und _ _ _ _ hu hx)
      clear hu HUt
      have HUt := Lib.hid HUt'.out
      clear HUt'
      obtain ⟨W8, hW⟩ : ∃ W, W = W7.setCell ⟨P, 19, none⟩ (.slice eh.oa el.length eh.cap) := ⟨_, rfl⟩
      rw [← hW]
      have hs0 := set_box21 (j := 19) (v := .slice eh.oa el.length eh.cap) (cs := [.int .i64 2, .int .i64 0, .string ⟨#[]⟩, .int .i64 0, .string ⟨#[]⟩, .slice none 0 0, .string ⟨#[]⟩, .slice none 0 0, .int .i64 0, .slice none 0 0, .string ⟨#[]⟩, .slice none 0 0, .string ⟨#[]⟩, .string ⟨#[]⟩, .bool xb, .int .i64 xi, .string xn, .slice xh.oa xp.length xh.cap, .slice th.oa tl.length th.cap, .slice none 0 0, .slice none 0 0]) (ds := [.int .i64 2, .int .i64 0, .string ⟨#[]⟩, .int .i64 0, .string ⟨#[]⟩, .slice none 0 0, .string ⟨#[]⟩, .slice none 0 0, .int .i64 0, .slice none 0 0, .string ⟨#[]⟩, .slice none 0 0, .string ⟨#[]⟩, .string ⟨#[]⟩, .bool xb, .int .i64 xi, .string xn, .slice xh.oa xp.length xh.cap, .slice th.oa tl.length th.cap, .slice eh.oa el.length eh.cap, .slice none 0 0]) HP_7.out rfl
      rw [← hW] at hs0
      clear hW
      have hb := hs0.1
      have hoth := hs0.2.1
      have hbx := hs0.2.2
      have HP_8 := Lib.hid (show W8.heap[P]? = some (.cells #[.int .i64 2, .int .i64 0, .string ⟨#[]⟩, .int .i64 0, .string ⟨#[]⟩, .slice none 0 0, .string ⟨#[]⟩, .slice none 0 0, .int .i64 0, .slice none 0 0, .string ⟨#[]⟩, .slice none 0 0, .string ⟨#[]⟩, .string ⟨#[]⟩, .bool xb, .int .i64 xi, .string xn, .slice xh.oa xp.length xh.cap, .slice th.oa tl.length th.cap, .slice eh.oa el.length eh.cap, .slice none 0 0] 108) by exact hbx)
      have HX8 := Lib.hid ((hoth B HNP.out.2.2.2.2).trans HX7.out)
      have HK8 := Lib.hid (HK7.out.box HNP.out.2.1 hb hoth)
      have HH8 := Lib.hid (HH7.out.box hb hoth HNP.out.1.symm HNP.out.2.2.1 HNP.out.2.2.2.1)
      have HJ8 := Lib.hid HJ7.out
      have hu := und_box (B := W2.heap.size) (B' := W2.heap.size) hb hoth (blk_lt HP_2.out) (Nat.le_refl _)
      have HUo' := Lib.hid (OpH.und _ _ _ hu HUo.out)
      clear hu HUo
      have HUo := Lib.hid HUo'.out
      clear HUo'
      have hu := und_box (B := W3.heap.size) (B' := W3.heap.size) hb hoth (blk_lt HP_3.out) (Nat.le_refl _)
      have HUt' := Lib.hid (Row.und HUt.out hu fun _ _ hx => StH.und _ _ _ _ hu hx)
      clear hu HUt
      have HUt := Lib.hid HUt'.out
      clear HUt'
      have hu := und_box (B := W6.heap.size) (B' := W6.heap.size) hb hoth (blk_lt HP_6.out) (Nat.le_refl _)
      have HUe' := Lib.hid (Row.und HUe.out hu fun _ _ hx => StH.und _ _ _ _ hu hx)
      clear hu HUe
      have HUe := Lib.hid HUe'.out
      clear HUe'
      clear hb hbx hoth
      clear hs0
      have HRP := Lib.hid (rangeAt_of_box (cs := [.int .i64 2, .int .i64 0, .string ⟨#[]⟩, .int .i64 0, .string ⟨#[]⟩, .slice none 0 0, .string ⟨#[]⟩, .slice none 0 0, .int .i64 0, .slice none 0 0, .string ⟨#[]⟩, .slice none 0 0, .string ⟨#[]⟩, .string ⟨#[]⟩, .bool xb, .int .i64 xi, .string xn, .slice xh.oa xp.length xh.cap, .slice th.oa tl.length th.cap, .slice eh.oa el.length eh.cap, .slice none 0 0]) (t := 108) HP_8.out)
      go_wp2_with
        (first
          | (refine wpList_load_mid rfl 108 (.tmp 4) rfl P 0 rfl [.int .i64 2, .int .i64 0, .string ⟨#[]⟩, .int .i64 0, .string ⟨#[]⟩, .slice none 0 0, .string ⟨#[]⟩, .slice none 0 0, .int .i64 0, .slice none 0 0, .string ⟨#[]⟩, .slice none 0 0, .string ⟨#[]⟩, .string ⟨#[]⟩, .bool xb, .int .i64 xi, .string xn, .slice xh.oa xp.length xh.cap, .slice th.oa tl.length th.cap, .slice eh.oa el.length eh.cap, .slice none 0 0] _ HRP.out Tryz.underlying108 rfl (by kernel_rfl) ?_)
          | (refine wpList_store_box rfl 108 (.tmp 2) (.tmp 40) rfl B 0 rfl (.agg #[.int .i64 2, .int .i64 0, .string ⟨#[]⟩, .int .i64 0, .string ⟨#[]⟩, .slice none 0 0, .string ⟨#[]⟩, .slice none 0 0, .int .i64 0, .slice none 0 0, .string ⟨#[]⟩, .slice none 0 0, .string ⟨#[]⟩, .string ⟨#[]⟩, .bool xb, .int .i64 xi, .string xn, .slice xh.oa xp.length xh.cap, .slice th.oa tl.length th.cap, .slice eh.oa el.length eh.cap, .slice none 0 0]) rfl [.int .i64 2, .int .i64 0, .string ⟨#[]⟩, .int .i64 0, .string ⟨#[]⟩, .slice none 0 0, .string ⟨#[]⟩, .slice none 0 0, .int .i64 0, .slice none 0 0, .string ⟨#[]⟩, .slice none 0 0, .string ⟨#[]⟩, .string ⟨#[]⟩, .bool xb, .int .i64 xi, .string xn, .slice xh.oa xp.length xh.cap, .slice th.oa tl.length th.cap, .slice eh.oa el.length eh.cap, .slice none 0 0] rfl [.int .i64 0, .int .i64 0, .string ⟨#[]⟩, .int .i64 0, .string ⟨#[]⟩, .slice none 0 0, .string ⟨#[]⟩, .slice none 0 0, .int .i64 0, .slice none 0 0, .string ⟨#[]⟩, .slice none 0 0, .string ⟨#[]⟩, .string ⟨#[]⟩, .bool false, .int .i64 0, .string ⟨#[]⟩, .slice none 0 0, .slice none 0 0, .slice none 0 0, .slice none 0 0] 108 HX8.out (Nat.le_refl _) (show (Tryz.prog.info? 108).map (·.size) = some 21 by kernel_rfl) ?c1 B (Nat.le_refl _) W8 (Below.refl _ _) ?_))
      case c1 => first | exact ⟨rfl, rfl, rfl, rfl, rfl, rfl, rfl, rfl, rfl, rfl, rfl, rfl, rfl, rfl, rfl, rfl, rfl, rfl, rfl, rfl, rfl⟩ | exact rfl | (intro v hv; simp at hv; first | (rcases hv with rfl | rfl | rfl | rfl | rfl | rfl | rfl | rfl | rfl | rfl | rfl | rfl | rfl | rfl | rfl | rfl | rfl | rfl | rfl | rfl | rfl <;> rfl) | (rcases hv with rfl | rfl | rfl | rfl | rfl | rfl | rfl | rfl | rfl | rfl | rfl | rfl | rfl | rfl | rfl | rfl | rfl | rfl | rfl | rfl <;> rfl) | (rcases hv with rfl | rfl | rfl | rfl | rfl | rfl | rfl | rfl | rfl | rfl | rfl | rfl | rfl | rfl | rfl | rfl | rfl | rfl | rfl <;> rfl) | (rcases hv with rfl | rfl | rfl | rfl | rfl | rfl | rfl | rfl | rfl | rfl | rfl | rfl | rfl | rfl | rfl | rfl | rfl | rfl <;> rfl) | (rcases hv with rfl | rfl | rfl | rfl | rfl | rfl | rfl | rfl | rfl | rfl | rfl | rfl | rfl | rfl | rfl | rfl | rfl <;> rfl) | (rcases hv with rfl | rfl | rfl | rfl | rfl | rfl | rfl | rfl | rfl | rfl | rfl | rfl | rfl | rfl | rfl | rfl <;> rfl) | (rcases hv with rfl | rfl | rfl | rfl | rfl | rfl | rfl | rfl | rfl | rfl | rfl | rfl | rfl | rfl | rfl <;> rfl) | (rcases hv with rfl | rfl | rfl | rfl | rfl | rfl | rfl | rfl | rfl | rfl | rfl | rfl | rfl | rfl <;> rfl) | (rcases hv with rfl | rfl | rfl | rfl | rfl | rfl | rfl | rfl | rfl | rfl | rfl | rfl | rfl <;> rfl) | (rcases hv with rfl | rfl | rfl | rfl | rfl | rfl | rfl | rfl | rfl | rfl | rfl | rfl <;> rfl) | (rcases hv with rfl | rfl | rfl | rfl | rfl | rfl | rfl | rfl | rfl | rfl | rfl <;> rfl) | (rcases hv with rfl | rfl | rfl | rfl | rfl | rfl | rfl | rfl | rfl | rfl <;> rfl) | (rcases hv with rfl | rfl | rfl | rfl | rfl | rfl | rfl | rfl | rfl <;> rfl) | (rcases hv with rfl | rfl | rfl | rfl | rfl | rfl | rfl | rfl <;> rfl) | (rcases hv with rfl | rfl | rfl | rfl | rfl | rfl | rfl <;> rfl) | (rcases hv with rfl | rfl | rfl | rfl | rfl | rfl <;> rfl) | (rcases hv with rfl | rfl | rfl | rfl | rfl <;> rfl) | (rcases hv with rfl | rfl | rfl | rfl <;> rfl) | (rcases hv with rfl | rfl | rfl <;> rfl) | (rcases hv with rfl | rfl <;> rfl) | (subst hv; rfl))
      intro WF hb hbx hoth
      have HF := Lib.hid (And.intro (HK8.out.box HBb.out.2.2.2 hb hoth) (HH8.out.box hb hoth HBb.out.1.symm HBb.out.2.1 HBb.out.2.2.1))
      have hu := und_box (B := W2.heap.size) (B' := w.heap.size) hb hoth (blk_lt HX2.out) HK2.out.size
      have HUoF := Lib.hid (OpH.und _ _ _ hu HUo.out)
      clear hu
      have hu := und_box (B := W3.heap.size) (B' := w.heap.size) hb hoth (blk_lt HX3.out) HK3.out.size
      have HUtF := Lib.hid (Row.und HUt.out hu fun _ _ hx => StH.und _ _ _ _ hu hx)
      clear hu
      have hu := und_box (B := W6.heap.size) (B' := w.heap.size) hb hoth (blk_lt HX6.out) HK6.out.size
      have HUeF := Lib.hid (Row.und HUe.out hu fun _ _ hx => StH.und _ _ _ _ hu hx)
      clear hu
      clear hb
      have HRG := Lib.hid (rangeAt_of_box (w := WF) (b := B) (cs := [.int .i64 2, .int .i64 0, .string ⟨#[]⟩, .int .i64 0, .string ⟨#[]⟩, .slice none 0 0, .string ⟨#[]⟩, .slice none 0 0, .int .i64 0, .slice none 0 0, .string ⟨#[]⟩, .slice none 0 0, .string ⟨#[]⟩, .string ⟨#[]⟩, .bool xb, .int .i64 xi, .string xn, .slice xh.oa xp.length xh.cap, .slice th.oa tl.length th.cap, .slice eh.oa el.length eh.cap, .slice none 0 0]) (t := 108) (by have h := hbx; rw [splL_all [.int .i64 2, .int .i64 0, .string ⟨#[]⟩, .int .i64 0, .string ⟨#[]⟩, .slice none 0 0, .string ⟨#[]⟩, .slice none 0 0, .int .i64 0, .slice none 0 0, .string ⟨#[]⟩, .slice none 0 0, .string ⟨#[]⟩, .string ⟨#[]⟩, .bool xb, .int .i64 xi, .string xn, .slice xh.oa xp.length xh.cap, .slice th.oa tl.length th.cap, .slice eh.oa el.length eh.cap, .slice none 0 0] [.int .i64 0, .int .i64 0, .string ⟨#[]⟩, .int .i64 0, .string ⟨#[]⟩, .slice none 0 0, .string ⟨#[]⟩, .slice none 0 0, .int .i64 0, .slice none 0 0, .string ⟨#[]⟩, .slice none 0 0, .string ⟨#[]⟩, .string ⟨#[]⟩, .bool false, .int .i64 0, .string ⟨#[]⟩, .slice none 0 0, .slice none 0 0, .slice none 0 0, .slice none 0 0] rfl] at h; exact h))
      go_wp2
      exact bodyPost_ret (v := .tuple #[.agg #[.int .i64 2, .int .i64 0, .string ⟨#[]⟩, .int .i64 0, .string ⟨#[]⟩, .slice none 0 0, .string ⟨#[]⟩, .slice none 0 0, .int .i64 0, .slice none 0 0, .string ⟨#[]⟩, .slice none 0 0, .string ⟨#[]⟩, .string ⟨#[]⟩, .bool xb, .int .i64 xi, .string xn, .slice xh.oa xp.length xh.cap, .slice th.oa tl.length th.cap, .slice eh.oa el.length eh.cap, .slice none 0 0], .bool true]) (results_two rfl rfl rfl HRG.out Tryz.underlying108 rfl (by kernel_rfl)) rfl (RPost.done HF.out.1 (HQ.out.symm.trans (map_ok HR.out)) HJ8.out HF.out.2 ⟨(.mk 2 0 nil5 ty0 pl0 rv0 ⟨xb, xi, ⟨xn, xh, xp⟩⟩ th tl eh el h0 [] : St5), rfl, by rw [erSt, erSts_eq, erSts_eq, HEt.out, HEe.out]; rfl, (by unfold StH; exact ⟨(show I64 2 from ⟨by decide, by decide⟩), TyH.le (show 1 ≤ n + 62 by omega) ⟨(show I64 0 from ⟨by decide, by decide⟩), Row.nil _ _ _ _⟩, Row.nil _ _ _ _, ⟨(show I64 0 from ⟨by decide, by decide⟩), Row.nil _ _ _ _, Row.nil _ _ _ _⟩, HUoF.out, (Row.mono HUtF.out fun _ _ hx => StH.le (by omega) hx), (Row.mono HUeF.out fun _ _ hx => StH.le (by omega) hx), Row.nil _ _ _ _⟩)⟩)
    · have HS := Lib.hid hts
      clear hts
      go_upto_region 13 with (go_at_call 172; refine HTK.out.mono ?_; rintro e W6 ⟨-, h1⟩; obtain ⟨rfl, hb⟩ := h1 HS.out; have hk := Kb.of_below (b := b) hb; have HK6 := Lib.hid (HK5.out.trans hk); have HH6 := Lib.hid (HH5.out.under hb); have HJ6 := Lib.hid HJ5.out; have HX6 := Lib.hid (hk.kept HX5.out HBb.out.1); have HP_6 := Lib.hid (hk.kept HP_5.out HNP.out.1); have HKK6 := Lib.hid hk; clear h1 hk hb HTK)
      have hQ := HQ.out
      rw [opt_no HH5.out HT6.out HS.out] at hQ
      replace HQ := Lib.hid hQ
      clear hQ HS
      have hu := HKK6.out.und (og := none) (B := W2.heap.size) (B' := W2.heap.size) (Nat.lt_of_lt_of_le HBW.out HK2.out.size) (Nat.le_refl _)
      have HUo' := Lib.hid (OpH.und _ _ _ hu HUo.out)
      clear hu HUo
      have HUo := Lib.hid HUo'.out
      clear HUo'
      have hu := HKK6.out.und (og := none) (B := W3.heap.size) (B' := W3.heap.size) (Nat.lt_of_lt_of_le HBW.out HK3.out.size) (Nat.le_refl _)
      have HUt' := Lib.hid (Row.und HUt.out hu fun _ _ hx => StH.und _ _ _ _ hu hx)
      clear hu HUt
      have HUt := Lib.hid HUt'.out
      clear HUt'
      have HRP := Lib.hid (rangeAt_of_box (cs := [.int .i64 2, .int .i64 0, .string ⟨#[]⟩, .int .i64 0, .string ⟨#[]⟩, .slice none 0 0, .string ⟨#[]⟩, .slice none 0 0, .int .i64 0, .slice none 0 0, .string ⟨#[]⟩, .slice none 0 0, .string ⟨#[]⟩, .string ⟨#[]⟩, .bool xb, .int .i64 xi, .string xn, .slice xh.oa xp.length xh.cap, .slice th.oa tl.length th.cap, .slice none 0 0, .slice none 0 0]) (t := 108) HP_6.out)
      go_wp2_with
        (first
          | (refine wpList_load_mid rfl 108 (.tmp 4) rfl P 0 rfl [.int .i64 2, .int .i64 0, .string ⟨#[]⟩, .int .i64 0, .string ⟨#[]⟩, .slice none 0 0, .string ⟨#[]⟩, .slice none 0 0, .int .i64 0, .slice none 0 0, .string ⟨#[]⟩, .slice none 0 0, .string ⟨#[]⟩, .string ⟨#[]⟩, .bool xb, .int .i64 xi, .string xn, .slice xh.oa xp.length xh.cap, .slice th.oa tl.length th.cap, .slice none 0 0, .slice none 0 0] _ HRP.out Tryz.underlying108 rfl (by kernel_rfl) ?_)
          | (refine wpList_store_box rfl 108 (.tmp 2) (.tmp 40) rfl B 0 rfl (.agg #[.int .i64 2, .int .i64 0, .string ⟨#[]⟩, .int .i64 0, .string ⟨#[]⟩, .slice none 0 0, .string ⟨#[]⟩, .slice none 0 0, .int .i64 0, .slice none 0 0, .string ⟨#[]⟩, .slice none 0 0, .string ⟨#[]⟩, .string ⟨#[]⟩, .bool xb, .int .i64 xi, .string xn, .slice xh.oa xp.length xh.cap, .slice th.oa tl.length th.cap, .slice none 0 0, .slice none 0 0]) rfl [.int .i64 2, .int .i64 0, .string ⟨#[]⟩, .int .i64 0, .string ⟨#[]⟩, .slice none 0 0, .string ⟨#[]⟩, .slice none 0 0, .int .i64 0, .slice none 0 0, .string ⟨#[]⟩, .slice none 0 0, .string ⟨#[]⟩, .string ⟨#[]⟩, .bool xb, .int .i64 xi, .string xn, .slice xh.oa xp.length xh.cap, .slice th.oa tl.length th.cap, .slice none 0 0, .slice none 0 0] rfl [.int .i64 0, .int .i64 0, .string ⟨#[]⟩, .int .i64 0, .string ⟨#[]⟩, .slice none 0 0, .string ⟨#[]⟩, .slice none 0 0, .int .i64 0, .slice none 0 0, .string ⟨#[]⟩, .slice none 0 0, .string ⟨#[]⟩, .string ⟨#[]⟩, .bool false, .int .i64 0, .string ⟨#[]⟩, .slice none 0 0, .slice none 0 0, .slice none 0 0, .slice none 0 0] 108 HX6.out (Nat.le_refl _) (show (Tryz.prog.info? 108).map (·.size) = some 21 by kernel_rfl) ?c1 B (Nat.le_refl _) W6 (Below.refl _ _) ?_))
      case c1 => first | exact ⟨rfl, rfl, rfl, rfl, rfl, rfl, rfl, rfl, rfl, rfl, rfl, rfl, rfl, rfl, rfl, rfl, rfl, rfl, rfl, rfl, rfl⟩ | exact rfl | (intro v hv; simp at hv; first | (rcases hv with rfl | rfl | rfl | rfl | rfl | rfl | rfl | rfl | rfl | rfl | rfl | rfl | rfl | rfl | rfl | rfl | rfl | rfl | rfl | rfl | rfl <;> rfl) | (rcases hv with rfl | rfl | rfl | rfl | rfl | rfl | rfl | rfl | rfl | rfl | rfl | rfl | rfl | rfl | rfl | rfl | rfl | rfl | rfl | rfl <;> rfl) | (rcases hv with rfl | rfl | rfl | rfl | rfl | rfl | rfl | rfl | rfl | rfl | rfl | rfl | rfl | rfl | rfl | rfl | rfl | rfl | rfl <;> rfl) | (rcases hv with rfl | rfl | rfl | rfl | rfl | rfl | rfl | rfl | rfl | rfl | rfl | rfl | rfl | rfl | rfl | rfl | rfl | rfl <;> rfl) | (rcases hv with rfl | rfl | rfl | rfl | rfl | rfl | rfl | rfl | rfl | rfl | rfl | rfl | rfl | rfl | rfl | rfl | rfl <;> rfl) | (rcases hv with rfl | rfl | rfl | rfl | rfl | rfl | rfl | rfl | rfl | rfl | rfl | rfl | rfl | rfl | rfl | rfl <;> rfl) | (rcases hv with rfl | rfl | rfl | rfl | rfl | rfl | rfl | rfl | rfl | rfl | rfl | rfl | rfl | rfl | rfl <;> rfl) | (rcases hv with rfl | rfl | rfl | rfl | rfl | rfl | rfl | rfl | rfl | rfl | rfl | rfl | rfl | rfl <;> rfl) | (rcases hv with rfl | rfl | rfl | rfl | rfl | rfl | rfl | rfl | rfl | rfl | rfl | rfl | rfl <;> rfl) | (rcases hv with rfl | rfl | rfl | rfl | rfl | rfl | rfl | rfl | rfl | rfl | rfl | rfl <;> rfl) | (rcases hv with rfl | rfl | rfl | rfl | rfl | rfl | rfl | rfl | rfl | rfl | rfl <;> rfl) | (rcases hv with rfl | rfl | rfl | rfl | rfl | rfl | rfl | rfl | rfl | rfl <;> rfl) | (rcases hv with rfl | rfl | rfl | rfl | rfl | rfl | rfl | rfl | rfl <;> rfl) | (rcases hv with rfl | rfl | rfl | rfl | rfl | rfl | rfl | rfl <;> rfl) | (rcases hv with rfl | rfl | rfl | rfl | rfl | rfl | rfl <;> rfl) | (rcases hv with rfl | rfl | rfl | rfl | rfl | rfl <;> rfl) | (rcases hv with rfl | rfl | rfl | rfl | rfl <;> rfl) | (rcases hv with rfl | rfl | rfl | rfl <;> rfl) | (rcases hv with rfl | rfl | rfl <;> rfl) | (rcases hv with rfl | rfl <;> rfl) | (subst hv; rfl))
      intro WF hb hbx hoth
      have HF := Lib.hid (And.intro (HK6.out.box HBb.out.2.2.2 hb hoth) (HH6.out.box hb hoth HBb.out.1.symm HBb.out.2.1 HBb.out.2.2.1))
      have hu := und_box (B := W2.heap.size) (B' := w.heap.size) hb hoth (blk_lt HX2.out) HK2.out.size
      have HUoF := Lib.hid (OpH.und _ _ _ hu HUo.out)
      clear hu
      have hu := und_box (B := W3.heap.size) (B' := w.heap.size) hb hoth (blk_lt HX3.out) HK3.out.size
      have HUtF := Lib.hid (Row.und HUt.out hu fun _ _ hx => StH.und _ _ _ _ hu hx)
      clear hu
      clear hb
      have HRG := Lib.hid (rangeAt_of_box (w := WF) (b := B) (cs := [.int .i64 2, .int .i64 0, .string ⟨#[]⟩, .int .i64 0, .string ⟨#[]⟩, .slice none 0 0, .string ⟨#[]⟩, .slice none 0 0, .int .i64 0, .slice none 0 0, .string ⟨#[]⟩, .slice none 0 0, .string ⟨#[]⟩, .string ⟨#[]⟩, .bool xb, .int .i64 xi, .string xn, .slice xh.oa xp.length xh.cap, .slice th.oa tl.length th.cap, .slice none 0 0, .slice none 0 0]) (t := 108) (by have h := hbx; rw [splL_all [.int .i64 2, .int .i64 0, .string ⟨#[]⟩, .int .i64 0, .string ⟨#[]⟩, .slice none 0 0, .string ⟨#[]⟩, .slice none 0 0, .int .i64 0, .slice none 0 0, .string ⟨#[]⟩, .slice none 0 0, .string ⟨#[]⟩, .string ⟨#[]⟩, .bool xb, .int .i64 xi, .string xn, .slice xh.oa xp.length xh.cap, .slice th.oa tl.length th.cap, .slice none 0 0, .slice none 0 0] [.int .i64 0, .int .i64 0, .string ⟨#[]⟩, .int .i64 0, .string ⟨#[]⟩, .slice none 0 0, .string ⟨#[]⟩, .slice none 0 0, .int .i64 0, .slice none 0 0, .string ⟨#[]⟩, .slice none 0 0, .string ⟨#[]⟩, .string ⟨#[]⟩, .bool false, .int .i64 0, .string ⟨#[]⟩, .slice none 0 0, .slice none 0 0, .slice none 0 0, .slice none 0 0] rfl] at h; exact h))
      go_wp2
      exact bodyPost_ret (v := .tuple #[.agg #[.int .i64 2, .int .i64 0, .string ⟨#[]⟩, .int .i64 0, .string ⟨#[]⟩, .slice none 0 0, .string ⟨#[]⟩, .slice none 0 0, .int .i64 0, .slice none 0 0, .string ⟨#[]⟩, .slice none 0 0, .string ⟨#[]⟩, .string ⟨#[]⟩, .bool xb, .int .i64 xi, .string xn, .slice xh.oa xp.length xh.cap, .slice th.oa tl.length th.cap, .slice none 0 0, .slice none 0 0], .bool true]) (results_two rfl rfl rfl HRG.out Tryz.underlying108 rfl (by kernel_rfl)) rfl (RPost.done HF.out.1 HQ.out.symm HJ6.out HF.out.2 ⟨(.mk 2 0 nil5 ty0 pl0 rv0 ⟨xb, xi, ⟨xn, xh, xp⟩⟩ th tl h0 [] h0 [] : St5), rfl, by rw [erSt, erSts_eq, HEt.out]; rfl, (by unfold StH; exact ⟨(show I64 2 from ⟨by decide, by decide⟩), TyH.le (show 1 ≤ n + 62 by omega) ⟨(show I64 0 from ⟨by decide, by decide⟩), Row.nil _ _ _ _⟩, Row.nil _ _ _ _, ⟨(show I64 0 from ⟨by decide, by decide⟩), Row.nil _ _ _ _, Row.nil _ _ _ _⟩, HUoF.out, (Row.mono HUtF.out fun _ _ hx => StH.le (by omega) hx), Row.nil _ _ _ _, Row.nil _ _ _ _⟩)⟩)
  · have HS := Lib.hid hts
    clear hts
    go_upto_region 7 with (go_at_call 172; refine HTK.out.mono ?_; rintro e W2 ⟨-, h1⟩; obtain ⟨rfl, hb⟩ := h1 HS.out; have hk := Kb.of_below (b := b) hb; have HK2 := Lib.hid (HK1.out.trans hk); have HH2 := Lib.hid (HH1.out.under hb); have HJ2 := Lib.hid HJ1.out; have HX2 := Lib.hid (hk.kept HX1.out HBb.out.1); have HP_2 := Lib.hid (hk.kept HP_1.out HNP.out.1); have HKK2 := Lib.hid hk; clear h1 hk hb HTK)
    have hQ := HQ.out
    unfold ofBlocksR at hQ
    rw [opt_no HH1.out HT2.out HS.out] at hQ
    replace HQ := Lib.hid hQ
    clear hQ HS
    obtain ⟨t3, ht3, hh, -⟩ := HH2.out.tok
    have htk := takes_any HH2.out ht3 wWhile (by decide)
    have HTK := Lib.hid htk
    have HT3 := Lib.hid ht3
    clear htk hh ht3
    by_cases hts : t3.text = wWhile
    · have HS := Lib.hid hts
      clear hts
      go_upto_region 8 with (go_at_call 172; refine HTK.out.mono ?_; rintro e W3 ⟨h1, -⟩; obtain ⟨rfl, hk, hrd⟩ := h1 HS.out; have HK3 := Lib.hid (HK2.out.trans hk); have HH3 := Lib.hid hrd; have HJ3 := Lib.hid (Nat.le_succ_of_le HJ2.out); have HX3 := Lib.hid (hk.kept HX2.out HBb.out.1); have HP_3 := Lib.hid (hk.kept HP_2.out HNP.out.1); have HKK3 := Lib.hid hk; clear h1 hk hrd HTK)
      have hQ := HQ.out
      rw [opt_yes HH2.out HT3.out HS.out] at hQ
      replace HQ := Lib.hid hQ
      clear hQ HS
      go_upto_region 13 with
        (first
          | (go_at_call 327
             refine (r_oper HH3.out).mono ?_
             rintro e W4 hp
             rcases hr4 : operR (ts.drop (i + 1)) with ⟨a4, l4⟩ | ⟨er, p⟩
             rotate_left
             · obtain ⟨he, hk⟩ := hp.no hr4
               unfold faultE at he
               subst he
               exact ⟨rfl, RPost.fault (HK3.out.trans hk) (HQ.out.symm.trans (bind_no hr4))⟩
             obtain ⟨hk, j4, v4, rfl, hl, hj, hrd, hv⟩ := hp.ok hr4
             subst hl
             obtain ⟨⟨xb, xi, ⟨xn, xh, xp⟩⟩, rfl, rfl, hp0⟩ := hv
             simp only [opV, opC, plC, List.cons_append, List.nil_append]
             have HUo := Lib.hid hp0
             clear hp0
             have HR4 := Lib.hid hr4
             have HK4 := Lib.hid (HK3.out.trans hk)
             have HH4 := Lib.hid hrd
             have HJ4 := Lib.hid (Nat.le_trans HJ3.out hj)
             have HX4 := Lib.hid (hk.kept HX3.out HBb.out.1)
             have HP_4 := Lib.hid (hk.kept HP_3.out HNP.out.1)
             clear hk hp hrd hj hr4)
          | (go_at_call 243
             refine (HBk.out _ _ HH4.out).mono ?_
             rintro e W5 hp
             rcases hr5 : blk (ts.drop j4) with ⟨a5, l5⟩ | ⟨er, p⟩
             rotate_left
             · obtain ⟨he, hk⟩ := hp.no hr5
               unfold faultE at he
               subst he
               exact ⟨rfl, RPost.fault (HK4.out.trans hk) (by have h := HQ.out; rw [bind_ok HR4.out, map_no hr5] at h; exact h.symm)⟩
             obtain ⟨hk, j5, v5, rfl, hl, hj, hrd, hv⟩ := hp.ok hr5
             subst hl
             obtain ⟨th, tl, rfl, haet, hpt⟩ := hv
             have HEt := Lib.hid haet
             have HUt := Lib.hid hpt
             clear haet hpt
             have hu := hk.und (og := none) (B := W3.heap.size) (B' := W3.heap.size) (Nat.lt_of_lt_of_le HBW.out HK3.out.size) (Nat.le_refl _)
             have HUo' := Lib.hid (OpH.und _ _ _ hu HUo.out)
             clear hu HUo
             have HUo := Lib.hid HUo'.out
             clear HUo'
             have HR5 := Lib.hid hr5
             have HK5 := Lib.hid (HK4.out.trans hk)
             have HH5 := Lib.hid hrd
             have HJ5 := Lib.hid (Nat.le_trans HJ4.out hj)
             have HX5 := Lib.hid (hk.kept HX4.out HBb.out.1)
             have HP_5 := Lib.hid (hk.kept HP_4.out HNP.out.1)
             clear hk hp hrd hj hr5)
          | (refine wpList_store_box rfl 108 (.tmp 4) (.tmp 26) rfl P 0 rfl (.agg #[.int .i64 3, .int .i64 0, .string ⟨#[]⟩, .int .i64 0, .string ⟨#[]⟩, .slice none 0 0, .string ⟨#[]⟩, .slice none 0 0, .int .i64 0, .slice none 0 0, .string ⟨#[]⟩, .slice none 0 0, .string ⟨#[]⟩, .string ⟨#[]⟩, .bool xb, .int .i64 xi, .string xn, .slice xh.oa xp.length xh.cap, .slice th.oa tl.length th.cap, .slice none 0 0, .slice none 0 0]) rfl [.int .i64 3, .int .i64 0, .string ⟨#[]⟩, .int .i64 0, .string ⟨#[]⟩, .slice none 0 0, .string ⟨#[]⟩, .slice none 0 0, .int .i64 0, .slice none 0 0, .string ⟨#[]⟩, .slice none 0 0, .string ⟨#[]⟩, .string ⟨#[]⟩, .bool xb, .int .i64 xi, .string xn, .slice xh.oa xp.length xh.cap, .slice th.oa tl.length th.cap, .slice none 0 0, .slice none 0 0] rfl [.int .i64 0, .int .i64 0, .string ⟨#[]⟩, .int .i64 0, .string ⟨#[]⟩, .slice none 0 0, .string ⟨#[]⟩, .slice none 0 0, .int .i64 0, .slice none 0 0, .string ⟨#[]⟩, .slice none 0 0, .string ⟨#[]⟩, .string ⟨#[]⟩, .bool false, .int .i64 0, .string ⟨#[]⟩, .slice none 0 0, .slice none 0 0, .slice none 0 0, .slice none 0 0] 108 HP_5.out (Nat.le_refl _) (show (Tryz.prog.info? 108).map (·.size) = some 21 by kernel_rfl) ?c1 P (Nat.le_refl _) W5 (Below.refl _ _) ?_; rotate_left; intro W6 hb hbx hoth))
      case c1 => first | exact ⟨rfl, rfl, rfl, rfl, rfl, rfl, rfl, rfl, rfl, rfl, rfl, rfl, rfl, rfl, rfl, rfl, rfl, rfl, rfl, rfl, rfl⟩ | exact rfl | (intro v hv; simp at hv; first | (rcases hv with rfl | rfl | rfl | rfl | rfl | rfl | rfl | rfl | rfl | rfl | rfl | rfl | rfl | rfl | rfl | rfl | rfl | rfl | rfl | rfl | rfl <;> rfl) | (rcases hv with rfl | rfl | rfl | rfl | rfl | rfl | rfl | rfl | rfl | rfl | rfl | rfl | rfl | rfl | rfl | rfl | rfl | rfl | rfl | rfl <;> rfl) | (rcases hv with rfl | rfl | rfl | rfl | rfl | rfl | rfl | rfl | rfl | rfl | rfl | rfl | rfl | rfl | rfl | rfl | rfl | rfl | rfl <;> rfl) | (rcases hv with rfl | rfl | rfl | rfl | rfl | rfl | rfl | rfl | rfl | rfl | rfl | rfl | rfl | rfl | rfl | rfl | rfl | rfl <;> rfl) | (rcases hv with rfl | rfl | rfl | rfl | rfl | rfl | rfl | rfl | rfl | rfl | rfl | rfl | rfl | rfl | rfl | rfl | rfl <;> rfl) | (rcases hv with rfl | rfl | rfl | rfl | rfl | rfl | rfl | rfl | rfl | rfl | rfl | rfl | rfl | rfl | rfl | rfl <;> rfl) | (rcases hv with rfl | rfl | rfl | rfl | rfl | rfl | rfl | rfl | rfl | rfl | rfl | rfl | rfl | rfl | rfl <;> rfl) | (rcases hv with rfl | rfl | rfl | rfl | rfl | rfl | rfl | rfl | rfl | rfl | rfl | rfl | rfl | rfl <;> rfl) | (rcases hv with rfl | rfl | rfl | rfl | rfl | rfl | rfl | rfl | rfl | rfl | rfl | rfl | rfl <;> rfl) | (rcases hv with rfl | rfl | rfl | rfl | rfl | rfl | rfl | rfl | rfl | rfl | rfl | rfl <;> rfl) | (rcases hv with rfl | rfl | rfl | rfl | rfl | rfl | rfl | rfl | rfl | rfl | rfl <;> rfl) | (rcases hv with rfl | rfl | rfl | rfl | rfl | rfl | rfl | rfl | rfl | rfl <;> rfl) | (rcases hv with rfl | rfl | rfl | rfl | rfl | rfl | rfl | rfl | rfl <;> rfl) | (rcases hv with rfl | rfl | rfl | rfl | rfl | rfl | rfl | rfl <;> rfl) | (rcases hv with rfl | rfl | rfl | rfl | rfl | rfl | rfl <;> rfl) | (rcases hv with rfl | rfl | rfl | rfl | rfl | rfl <;> rfl) | (rcases hv with rfl | rfl | rfl | rfl | rfl <;> rfl) | (rcases hv with rfl | rfl | rfl | rfl <;> rfl) | (rcases hv with rfl | rfl | rfl <;> rfl) | (rcases hv with rfl | rfl <;> rfl) | (subst hv; rfl))
      have hQ := HQ.out
      rw [bind_ok HR4.out] at hQ
      replace HQ := Lib.hid hQ
      clear hQ
      have HP_6 := Lib.hid (show W6.heap[P]? = some (.cells #[.int .i64 3, .int .i64 0, .string ⟨#[]⟩, .int .i64 0, .string ⟨#[]⟩, .slice none 0 0, .string ⟨#[]⟩, .slice none 0 0, .int .i64 0, .slice none 0 0, .string ⟨#[]⟩, .slice none 0 0, .string ⟨#[]⟩, .string ⟨#[]⟩, .bool xb, .int .i64 xi, .string xn, .slice xh.oa xp.length xh.cap, .slice th.oa tl.length th.cap, .slice none 0 0, .slice none 0 0] 108) by have h := hbx; rw [splL_all [.int .i64 3, .int .i64 0, .string ⟨#[]⟩, .int .i64 0, .string ⟨#[]⟩, .slice none 0 0, .string ⟨#[]⟩, .slice none 0 0, .int .i64 0, .slice none 0 0, .string ⟨#[]⟩, .slice none 0 0, .string ⟨#[]⟩, .string ⟨#[]⟩, .bool xb, .int .i64 xi, .string xn, .slice xh.oa xp.length xh.cap, .slice th.oa tl.length th.cap, .slice none 0 0, .slice none 0 0] [.int .i64 0, .int .i64 0, .string ⟨#[]⟩, .int .i64 0, .string ⟨#[]⟩, .slice none 0 0, .string ⟨#[]⟩, .slice none 0 0, .int .i64 0, .slice none 0 0, .string ⟨#[]⟩, .slice none 0 0, .string ⟨#[]⟩, .string ⟨#[]⟩, .bool false, .int .i64 0, .string ⟨#[]⟩, .slice none 0 0, .slice none 0 0, .slice none 0 0, .slice none 0 0] rfl] at h; exact h)
      have HX6 := Lib.hid ((hoth B HNP.out.2.2.2.2).trans HX5.out)
      have HK6 := Lib.hid (HK5.out.box HNP.out.2.1 hb hoth)
      have HH6 := Lib.hid (HH5.out.box hb hoth HNP.out.1.symm HNP.out.2.2.1 HNP.out.2.2.2.1)
      have HJ6 := Lib.hid HJ5.out
      have hu := und_box (B := W3.heap.size) (B' := W3.heap.size) hb hoth (blk_lt HP_3.out) (Nat.le_refl _)
      have HUo' := Lib.hid (OpH.und _ _ _ hu HUo.out)
      clear hu HUo
      have HUo := Lib.hid HUo'.out
      clear HUo'
      have hu := und_box (B := W4.heap.size) (B' := W4.heap.size) hb hoth (blk_lt HP_4.out) (Nat.le_refl _)
      have HUt' := Lib.hid (Row.und HUt.out hu fun _ _ hx => StH.und _ _ _ _ hu hx)
      clear hu HUt
      have HUt := Lib.hid HUt'.out
      clear HUt'
      clear hb hbx hoth
      have HRP := Lib.hid (rangeAt_of_box (cs := [.int .i64 3, .int .i64 0, .string ⟨#[]⟩, .int .i64 0, .string ⟨#[]⟩, .slice none 0 0, .string ⟨#[]⟩, .slice none 0 0, .int .i64 0, .slice none 0 0, .string ⟨#[]⟩, .slice none 0 0, .string ⟨#[]⟩, .string ⟨#[]⟩, .bool xb, .int .i64 xi, .string xn, .slice xh.oa xp.length xh.cap, .slice th.oa tl.length th.cap, .slice none 0 0, .slice none 0 0]) (t := 108) HP_6.out)
      go_wp2_with
        (first
          | (refine wpList_load_mid rfl 108 (.tmp 4) rfl P 0 rfl [.int .i64 3, .int .i64 0, .string ⟨#[]⟩, .int .i64 0, .string ⟨#[]⟩, .slice none 0 0, .string ⟨#[]⟩, .slice none 0 0, .int .i64 0, .slice none 0 0, .string ⟨#[]⟩, .slice none 0 0, .string ⟨#[]⟩, .string ⟨#[]⟩, .bool xb, .int .i64 xi, .string xn, .slice xh.oa xp.length xh.cap, .slice th.oa tl.length th.cap, .slice none 0 0, .slice none 0 0] _ HRP.out Tryz.underlying108 rfl (by kernel_rfl) ?_)
          | (refine wpList_store_box rfl 108 (.tmp 2) (.tmp 40) rfl B 0 rfl (.agg #[.int .i64 3, .int .i64 0, .string ⟨#[]⟩, .int .i64 0, .string ⟨#[]⟩, .slice none 0 0, .string ⟨#[]⟩, .slice none 0 0, .int .i64 0, .slice none 0 0, .string ⟨#[]⟩, .slice none 0 0, .string ⟨#[]⟩, .string ⟨#[]⟩, .bool xb, .int .i64 xi, .string xn, .slice xh.oa xp.length xh.cap, .slice th.oa tl.length th.cap, .slice none 0 0, .slice none 0 0]) rfl [.int .i64 3, .int .i64 0, .string ⟨#[]⟩, .int .i64 0, .string ⟨#[]⟩, .slice none 0 0, .string ⟨#[]⟩, .slice none 0 0, .int .i64 0, .slice none 0 0, .string ⟨#[]⟩, .slice none 0 0, .string ⟨#[]⟩, .string ⟨#[]⟩, .bool xb, .int .i64 xi, .string xn, .slice xh.oa xp.length xh.cap, .slice th.oa tl.length th.cap, .slice none 0 0, .slice none 0 0] rfl [.int .i64 0, .int .i64 0, .string ⟨#[]⟩, .int .i64 0, .string ⟨#[]⟩, .slice none 0 0, .string ⟨#[]⟩, .slice none 0 0, .int .i64 0, .slice none 0 0, .string ⟨#[]⟩, .slice none 0 0, .string ⟨#[]⟩, .string ⟨#[]⟩, .bool false, .int .i64 0, .string ⟨#[]⟩, .slice none 0 0, .slice none 0 0, .slice none 0 0, .slice none 0 0] 108 HX6.out (Nat.le_refl _) (show (Tryz.prog.info? 108).map (·.size) = some 21 by kernel_rfl) ?c1 B (Nat.le_refl _) W6 (Below.refl _ _) ?_))
      case c1 => first | exact ⟨rfl, rfl, rfl, rfl, rfl, rfl, rfl, rfl, rfl, rfl, rfl, rfl, rfl, rfl, rfl, rfl, rfl, rfl, rfl, rfl, rfl⟩ | exact rfl | (intro v hv; simp at hv; first | (rcases hv with rfl | rfl | rfl | rfl | rfl | rfl | rfl | rfl | rfl | rfl | rfl | rfl | rfl | rfl | rfl | rfl | rfl | rfl | rfl | rfl | rfl <;> rfl) | (rcases hv with rfl | rfl | rfl | rfl | rfl | rfl | rfl | rfl | rfl | rfl | rfl | rfl | rfl | rfl | rfl | rfl | rfl | rfl | rfl | rfl <;> rfl) | (rcases hv with rfl | rfl | rfl | rfl | rfl | rfl | rfl | rfl | rfl | rfl | rfl | rfl | rfl | rfl | rfl | rfl | rfl | rfl | rfl <;> rfl) | (rcases hv with rfl | rfl | rfl | rfl | rfl | rfl | rfl | rfl | rfl | rfl | rfl | rfl | rfl | rfl | rfl | rfl | rfl | rfl <;> rfl) | (rcases hv with rfl | rfl | rfl | rfl | rfl | rfl | rfl | rfl | rfl | rfl | rfl | rfl | rfl | rfl | rfl | rfl | rfl <;> rfl) | (rcases hv with rfl | rfl | rfl | rfl | rfl | rfl | rfl | rfl | rfl | rfl | rfl | rfl | rfl | rfl | rfl | rfl <;> rfl) | (rcases hv with rfl | rfl | rfl | rfl | rfl | rfl | rfl | rfl | rfl | rfl | rfl | rfl | rfl | rfl | rfl <;> rfl) | (rcases hv with rfl | rfl | rfl | rfl | rfl | rfl | rfl | rfl | rfl | rfl | rfl | rfl | rfl | rfl <;> rfl) | (rcases hv with rfl | rfl | rfl | rfl | rfl | rfl | rfl | rfl | rfl | rfl | rfl | rfl | rfl <;> rfl) | (rcases hv with rfl | rfl | rfl | rfl | rfl | rfl | rfl | rfl | rfl | rfl | rfl | rfl <;> rfl) | (rcases hv with rfl | rfl | rfl | rfl | rfl | rfl | rfl | rfl | rfl | rfl | rfl <;> rfl) | (rcases hv with rfl | rfl | rfl | rfl | rfl | rfl | rfl | rfl | rfl | rfl <;> rfl) | (rcases hv with rfl | rfl | rfl | rfl | rfl | rfl | rfl | rfl | rfl <;> rfl) | (rcases hv with rfl | rfl | rfl | rfl | rfl | rfl | rfl | rfl <;> rfl) | (rcases hv with rfl | rfl | rfl | rfl | rfl | rfl | rfl <;> rfl) | (rcases hv with rfl | rfl | rfl | rfl | rfl | rfl <;> rfl) | (rcases hv with rfl | rfl | rfl | rfl | rfl <;> rfl) | (rcases hv with rfl | rfl | rfl | rfl <;> rfl) | (rcases hv with rfl | rfl | rfl <;> rfl) | (rcases hv with rfl | rfl <;> rfl) | (subst hv; rfl))
      intro WF hb hbx hoth
      have HF := Lib.hid (And.intro (HK6.out.box HBb.out.2.2.2 hb hoth) (HH6.out.box hb hoth HBb.out.1.symm HBb.out.2.1 HBb.out.2.2.1))
      have hu := und_box (B := W3.heap.size) (B' := w.heap.size) hb hoth (blk_lt HX3.out) HK3.out.size
      have HUoF := Lib.hid (OpH.und _ _ _ hu HUo.out)
      clear hu
      have hu := und_box (B := W4.heap.size) (B' := w.heap.size) hb hoth (blk_lt HX4.out) HK4.out.size
      have HUtF := Lib.hid (Row.und HUt.out hu fun _ _ hx => StH.und _ _ _ _ hu hx)
      clear hu
      clear hb
      have HRG := Lib.hid (rangeAt_of_box (w := WF) (b := B) (cs := [.int .i64 3, .int .i64 0, .string ⟨#[]⟩, .int .i64 0, .string ⟨#[]⟩, .slice none 0 0, .string ⟨#[]⟩, .slice none 0 0, .int .i64 0, .slice none 0 0, .string ⟨#[]⟩, .slice none 0 0, .string ⟨#[]⟩, .string ⟨#[]⟩, .bool xb, .int .i64 xi, .string xn, .slice xh.oa xp.length xh.cap, .slice th.oa tl.length th.cap, .slice none 0 0, .slice none 0 0]) (t := 108) (by have h := hbx; rw [splL_all [.int .i64 3, .int .i64 0, .string ⟨#[]⟩, .int .i64 0, .string ⟨#[]⟩, .slice none 0 0, .string ⟨#[]⟩, .slice none 0 0, .int .i64 0, .slice none 0 0, .string ⟨#[]⟩, .slice none 0 0, .string ⟨#[]⟩, .string ⟨#[]⟩, .bool xb, .int .i64 xi, .string xn, .slice xh.oa xp.length xh.cap, .slice th.oa tl.length th.cap, .slice none 0 0, .slice none 0 0] [.int .i64 0, .int .i64 0, .string ⟨#[]⟩, .int .i64 0, .string ⟨#[]⟩, .slice none 0 0, .string ⟨#[]⟩, .slice none 0 0, .int .i64 0, .slice none 0 0, .string ⟨#[]⟩, .slice none 0 0, .string ⟨#[]⟩, .string ⟨#[]⟩, .bool false, .int .i64 0, .string ⟨#[]⟩, .slice none 0 0, .slice none 0 0, .slice none 0 0, .slice none 0 0] rfl] at h; exact h))
      go_wp2
      exact bodyPost_ret (v := .tuple #[.agg #[.int .i64 3, .int .i64 0, .string ⟨#[]⟩, .int .i64 0, .string ⟨#[]⟩, .slice none 0 0, .string ⟨#[]⟩, .slice none 0 0, .int .i64 0, .slice none 0 0, .string ⟨#[]⟩, .slice none 0 0, .string ⟨#[]⟩, .string ⟨#[]⟩, .bool xb, .int .i64 xi, .string xn, .slice xh.oa xp.length xh.cap, .slice th.oa tl.length th.cap, .slice none 0 0, .slice none 0 0], .bool true]) (results_two rfl rfl rfl HRG.out Tryz.underlying108 rfl (by kernel_rfl)) rfl (RPost.done HF.out.1 (HQ.out.symm.trans (map_ok HR5.out)) HJ6.out HF.out.2 ⟨(.mk 3 0 nil5 ty0 pl0 rv0 ⟨xb, xi, ⟨xn, xh, xp⟩⟩ th tl h0 [] h0 [] : St5), rfl, by rw [erSt, erSts_eq, HEt.out]; rfl, (by unfold StH; exact ⟨(show I64 3 from ⟨by decide, by decide⟩), TyH.le (show 1 ≤ n + 62 by omega) ⟨(show I64 0 from ⟨by decide, by decide⟩), Row.nil _ _ _ _⟩, Row.nil _ _ _ _, ⟨(show I64 0 from ⟨by decide, by decide⟩), Row.nil _ _ _ _, Row.nil _ _ _ _⟩, HUoF.out, (Row.mono HUtF.out fun _ _ hx => StH.le (by omega) hx), Row.nil _ _ _ _, Row.nil _ _ _ _⟩)⟩)
    · have HS := Lib.hid hts
      clear hts
      go_upto_region 9 with (go_at_call 172; refine HTK.out.mono ?_; rintro e W3 ⟨-, h1⟩; obtain ⟨rfl, hb⟩ := h1 HS.out; have hk := Kb.of_below (b := b) hb; have HK3 := Lib.hid (HK2.out.trans hk); have HH3 := Lib.hid (HH2.out.under hb); have HJ3 := Lib.hid HJ2.out; have HX3 := Lib.hid (hk.kept HX2.out HBb.out.1); have HP_3 := Lib.hid (hk.kept HP_2.out HNP.out.1); have HKK3 := Lib.hid hk; clear h1 hk hb HTK)
      have hQ := HQ.out
      rw [opt_no HH2.out HT3.out HS.out] at hQ
      replace HQ := Lib.hid hQ
      clear hQ HS
      obtain ⟨t4, ht4, hh, -⟩ := HH3.out.tok
      have htk := takes_any HH3.out ht4 wMatch (by decide)
      have HTK := Lib.hid htk
      have HT4 := Lib.hid ht4
      clear htk hh ht4
      by_cases hts : t4.text = wMatch
      · have HS := Lib.hid hts
        clear hts
        go_upto_region 10 with (go_at_call 172; refine HTK.out.mono ?_; rintro e W4 ⟨h1, -⟩; obtain ⟨rfl, hk, hrd⟩ := h1 HS.out; have HK4 := Lib.hid (HK3.out.trans hk); have HH4 := Lib.hid hrd; have HJ4 := Lib.hid (Nat.le_succ_of_le HJ3.out); have HX4 := Lib.hid (hk.kept HX3.out HBb.out.1); have HP_4 := Lib.hid (hk.kept HP_3.out HNP.out.1); have HKK4 := Lib.hid hk; clear h1 hk hrd HTK)
        have hQ := HQ.out
        rw [opt_yes HH3.out HT4.out HS.out] at hQ
        replace HQ := Lib.hid hQ
        clear hQ HS
        go_upto_region 11 with
          (first
            | (go_at_call 328
               refine (r_alone HH4.out).mono ?_
               rintro e W5 hp
               rcases hr5 : aloneR (ts.drop (i + 1)) with ⟨a5, l5⟩ | ⟨er, p⟩
               rotate_left
               · obtain ⟨he, hk⟩ := hp.no hr5
                 unfold faultE at he
                 subst he
                 exact ⟨rfl, RPost.fault (HK4.out.trans hk) (HQ.out.symm.trans (bind_no hr5))⟩
               obtain ⟨hk, j5, v5, rfl, hl, hj, hrd, hv⟩ := hp.ok hr5
               subst hl
               obtain ⟨⟨xn, xh, xp⟩, rfl, rfl, hp0⟩ := hv
               simp only [plV, plC]
               have HUo := Lib.hid hp0
               clear hp0
               have HR5 := Lib.hid hr5
               have HK5 := Lib.hid (HK4.out.trans hk)
               have HH5 := Lib.hid hrd
               have HJ5 := Lib.hid (Nat.le_trans HJ4.out hj)
               have HX5 := Lib.hid (hk.kept HX4.out HBb.out.1)
               have HP_5 := Lib.hid (hk.kept HP_4.out HNP.out.1)
               clear hk hp hrd hj hr5)
            | (refine wpList_store_box rfl 108 (.tmp 4) (.tmp 32) rfl P 0 rfl (.agg #[.int .i64 4, .int .i64 0, .string ⟨#[]⟩, .int .i64 0, .string ⟨#[]⟩, .slice none 0 0, .string xn, .slice xh.oa xp.length xh.cap, .int .i64 0, .slice none 0 0, .string ⟨#[]⟩, .slice none 0 0, .string ⟨#[]⟩, .string ⟨#[]⟩, .bool false, .int .i64 0, .string ⟨#[]⟩, .slice none 0 0, .slice none 0 0, .slice none 0 0, .slice none 0 0]) rfl [.int .i64 4, .int .i64 0, .string ⟨#[]⟩, .int .i64 0, .string ⟨#[]⟩, .slice none 0 0, .string xn, .slice xh.oa xp.length xh.cap, .int .i64 0, .slice none 0 0, .string ⟨#[]⟩, .slice none 0 0, .string ⟨#[]⟩, .string ⟨#[]⟩, .bool false, .int .i64 0, .string ⟨#[]⟩, .slice none 0 0, .slice none 0 0, .slice none 0 0, .slice none 0 0] rfl [.int .i64 0, .int .i64 0, .string ⟨#[]⟩, .int .i64 0, .string ⟨#[]⟩, .slice none 0 0, .string ⟨#[]⟩, .slice none 0 0, .int .i64 0, .slice none 0 0, .string ⟨#[]⟩, .slice none 0 0, .string ⟨#[]⟩, .string ⟨#[]⟩, .bool false, .int .i64 0, .string ⟨#[]⟩, .slice none 0 0, .slice none 0 0, .slice none 0 0, .slice none 0 0] 108 HP_5.out (Nat.le_refl _) (show (Tryz.prog.info? 108).map (·.size) = some 21 by kernel_rfl) ?c1 P (Nat.le_refl _) W5 (Below.refl _ _) ?_; rotate_left; intro W6 hb hbx hoth))
        case c1 => first | exact ⟨rfl, rfl, rfl, rfl, rfl, rfl, rfl, rfl, rfl, rfl, rfl, rfl, rfl, rfl, rfl, rfl, rfl, rfl, rfl, rfl, rfl⟩ | exact rfl | (intro v hv; simp at hv; first | (rcases hv with rfl | rfl | rfl | rfl | rfl | rfl | rfl | rfl | rfl | rfl | rfl | rfl | rfl | rfl | rfl | rfl | rfl | rfl | rfl | rfl | rfl <;> rfl) | (rcases hv with rfl | rfl | rfl | rfl | rfl | rfl | rfl | rfl | rfl | rfl | rfl | rfl | rfl | rfl | rfl | rfl | rfl | rfl | rfl | rfl <;> rfl) | (rcases hv with rfl | rfl | rfl | rfl | rfl | rfl | rfl | rfl | rfl | rfl | rfl | rfl | rfl | rfl | rfl | rfl | rfl | rfl | rfl <;> rfl) | (rcases hv with rfl | rfl | rfl | rfl | rfl | rfl | rfl | rfl | rfl | rfl | rfl | rfl | rfl | rfl | rfl | rfl | rfl | rfl <;> rfl) | (rcases hv with rfl | rfl | rfl | rfl | rfl | rfl | rfl | rfl | rfl | rfl | rfl | rfl | rfl | rfl | rfl | rfl | rfl <;> rfl) | (rcases hv with rfl | rfl | rfl | rfl | rfl | rfl | rfl | rfl | rfl | rfl | rfl | rfl | rfl | rfl | rfl | rfl <;> rfl) | (rcases hv with rfl | rfl | rfl | rfl | rfl | rfl | rfl | rfl | rfl | rfl | rfl | rfl | rfl | rfl | rfl <;> rfl) | (rcases hv with rfl | rfl | rfl | rfl | rfl | rfl | rfl | rfl | rfl | rfl | rfl | rfl | rfl | rfl <;> rfl) | (rcases hv with rfl | rfl | rfl | rfl | rfl | rfl | rfl | rfl | rfl | rfl | rfl | rfl | rfl <;> rfl) | (rcases hv with rfl | rfl | rfl | rfl | rfl | rfl | rfl | rfl | rfl | rfl | rfl | rfl <;> rfl) | (rcases hv with rfl | rfl | rfl | rfl | rfl | rfl | rfl | rfl | rfl | rfl | rfl <;> rfl) | (rcases hv with rfl | rfl | rfl | rfl | rfl | rfl | rfl | rfl | rfl | rfl <;> rfl) | (rcases hv with rfl | rfl | rfl | rfl | rfl | rfl | rfl | rfl | rfl <;> rfl) | (rcases hv with rfl | rfl | rfl | rfl | rfl | rfl | rfl | rfl <;> rfl) | (rcases hv with rfl | rfl | rfl | rfl | rfl | rfl | rfl <;> rfl) | (rcases hv with rfl | rfl | rfl | rfl | rfl | rfl <;> rfl) | (rcases hv with rfl | rfl | rfl | rfl | rfl <;> rfl) | (rcases hv with rfl | rfl | rfl | rfl <;> rfl) | (rcases hv with rfl | rfl | rfl <;> rfl) | (rcases hv with rfl | rfl <;> rfl) | (subst hv; rfl))
        have hQ := HQ.out
        rw [bind_ok HR5.out] at hQ
        replace HQ := Lib.hid hQ
        clear hQ
        have HP_6 := Lib.hid (show W6.heap[P]? = some (.cells #[.int .i64 4, .int .i64 0, .string ⟨#[]⟩, .int .i64 0, .string ⟨#[]⟩, .slice none 0 0, .string xn, .slice xh.oa xp.length xh.cap, .int .i64 0, .slice none 0 0, .string ⟨#[]⟩, .slice none 0 0, .string ⟨#[]⟩, .string ⟨#[]⟩, .bool false, .int .i64 0, .string ⟨#[]⟩, .slice none 0 0, .slice none 0 0, .slice none 0 0, .slice none 0 0] 108) by have h := hbx; rw [splL_all [.int .i64 4, .int .i64 0, .string ⟨#[]⟩, .int .i64 0, .string ⟨#[]⟩, .slice none 0 0, .string xn, .slice xh.oa xp.length xh.cap, .int .i64 0, .slice none 0 0, .string ⟨#[]⟩, .slice none 0 0, .string ⟨#[]⟩, .string ⟨#[]⟩, .bool false, .int .i64 0, .string ⟨#[]⟩, .slice none 0 0, .slice none 0 0, .slice none 0 0, .slice none 0 0] [.int .i64 0, .int .i64 0, .string ⟨#[]⟩, .int .i64 0, .string ⟨#[]⟩, .slice none 0 0, .string ⟨#[]⟩, .slice none 0 0, .int .i64 0, .slice none 0 0, .string ⟨#[]⟩, .slice none 0 0, .string ⟨#[]⟩, .string ⟨#[]⟩, .bool false, .int .i64 0, .string ⟨#[]⟩, .slice none 0 0, .slice none 0 0, .slice none 0 0, .slice none 0 0] rfl] at h; exact h)
        have HX6 := Lib.hid ((hoth B HNP.out.2.2.2.2).trans HX5.out)
        have HK6 := Lib.hid (HK5.out.box HNP.out.2.1 hb hoth)
        have HH6 := Lib.hid (HH5.out.box hb hoth HNP.out.1.symm HNP.out.2.2.1 HNP.out.2.2.2.1)
        have HJ6 := Lib.hid HJ5.out
        have hu := und_box (B := W4.heap.size) (B' := W4.heap.size) hb hoth (blk_lt HP_4.out) (Nat.le_refl _)
        have HUo' := Lib.hid (PlH.und _ _ _ hu HUo.out)
        clear hu HUo
        have HUo := Lib.hid HUo'.out
        clear HUo'
        clear hb hbx hoth
        have hc := need_any HH6.out wLB (by decide)
        have HC := Lib.hid hc
        clear hc
        rcases hr : needR wLB (ts.drop j5) with ⟨a7, l7⟩ | ⟨er, p⟩
        rotate_left
        · have HR := Lib.hid hr
          clear hr

          go_wp2_with (go_at_call 237; refine HC.out.mono ?_; rintro e W7 hp; obtain ⟨he, hk⟩ := hp.no HR.out; unfold faultE at he; subst he; have HK7 := Lib.hid (HK6.out.trans hk); clear hk hp HC)
          exact ⟨rfl, RPost.fault HK7.out (HQ.out.symm.trans (bind_no HR.out))⟩
        have HR := Lib.hid hr
        clear hr
        go_upto_region 12 with (go_at_call 237; refine HC.out.mono ?_; rintro e W7 hp; obtain ⟨hk, j7, v7, rfl, hl, hj, hrd, hv⟩ := hp.ok HR.out; subst hl; unfold VUnit at hv; subst hv; have HK7 := Lib.hid (HK6.out.trans hk); have HKK7 := Lib.hid hk; have HH7 := Lib.hid hrd; have HJ7 := Lib.hid (Nat.le_trans HJ6.out hj); have HX7 := Lib.hid (hk.kept HX6.out HBb.out.1); have HP_7 := Lib.hid (hk.kept HP_6.out HNP.out.1); clear hk hp hrd hj HC)
        have hQ := HQ.out
        rw [bind_ok HR.out] at hQ
        replace HQ := Lib.hid hQ
        clear hQ HR
        have hu := HKK7.out.und (og := none) (B := W4.heap.size) (B' := W4.heap.size) (Nat.lt_of_lt_of_le HBW.out HK4.out.size) (Nat.le_refl _)
        have HUo' := Lib.hid (PlH.und _ _ _ hu HUo.out)
        clear hu HUo
        have HUo := Lib.hid HUo'.out
        clear HUo'
        have hc := arms_row HH7.out (armR blk) (ru_arm HRB.out).con (fun w i H => r_arm H blk HBk.out)
        have HC := Lib.hid hc
        clear hc
        rcases hr : rowL wRB (fun _ => armR blk) (ts.drop j7) with ⟨a8, l8⟩ | ⟨er, p⟩
        rotate_left
        · have HR := Lib.hid hr
          clear hr

          go_wp2_with (go_at_call 329; refine HC.out.mono ?_; rintro e W8 hp; obtain ⟨he, hk⟩ := hp.no HR.out; unfold faultE at he; subst he; have HK8 := Lib.hid (HK7.out.trans hk); clear hk hp HC)
          exact ⟨rfl, RPost.fault HK8.out (HQ.out.symm.trans (bind_no HR.out))⟩
        have HR := Lib.hid hr
        clear hr
        have hmf : ∀ (fn : Fn) (first cap : Array Value) (w : World), (Instr.makeFunc fn first cap).run Tryz.prog w = .ok (.func fn first cap) w := fun _ _ _ _ => rfl
        go_upto_region 13 with (go_at_call 329; refine HC.out.mono ?_; rintro e W8 hp; obtain ⟨hk, j8, v8, rfl, hl, hj, hrd, hv⟩ := hp.ok HR.out; subst hl; obtain ⟨rh, rl, rfl, haer, hpr⟩ := hv; have HEr := Lib.hid haer; have HUr := Lib.hid hpr; clear haer hpr; have HK8 := Lib.hid (HK7.out.trans hk); have HKK8 := Lib.hid hk; have HH8 := Lib.hid hrd; have HJ8 := Lib.hid (Nat.le_trans HJ7.out hj); have HX8 := Lib.hid (hk.kept HX7.out HBb.out.1); have HP_8 := Lib.hid (hk.kept HP_7.out HNP.out.1); clear hk hp hrd hj HC; obtain ⟨pc, pf⟩ := box_cell HP_8.out 20 (.slice none 0 0) rfl)
        clear hmf pc pf
        have hu := HKK8.out.und (og := none) (B := W4.heap.size) (B' := W4.heap.size) (Nat.lt_of_lt_of_le HBW.out HK4.out.size) (Nat.le_refl _)
        have HUo' := Lib.hid (PlH.und _ _ _ hu HUo.out)
        clear hu HUo
        have HUo := Lib.hid HUo'.out
        clear HUo'
        obtain ⟨W9, hW⟩ : ∃ W, W = W8.setCell ⟨P, 20, none⟩ (.slice rh.oa rl.length rh.cap) := ⟨_, rfl⟩
        rw [← hW]
        have hs0 := set_box21 (j := 20) (v := .slice rh.oa rl.length rh.cap) (cs := [.int .i64 4, .int .i64 0, .string ⟨#[]⟩, .int .i64 0, .string ⟨#[]⟩, .slice none 0 0, .string xn, .slice xh.oa xp.length xh.cap, .int .i64 0, .slice none 0 0, .string ⟨#[]⟩, .slice none 0 0, .string ⟨#[]⟩, .string ⟨#[]⟩, .bool false, .int .i64 0, .string ⟨#[]⟩, .slice none 0 0, .slice none 0 0, .slice none 0 0, .slice none 0 0]) (ds := [.int .i64 4, .int .i64 0, .string ⟨#[]⟩, .int .i64 0, .string ⟨#[]⟩, .slice none 0 0, .string xn, .slice xh.oa xp.length xh.cap, .int .i64 0, .slice none 0 0, .string ⟨#[]⟩, .slice none 0 0, .string ⟨#[]⟩, .string ⟨#[]⟩, .bool false, .int .i64 0, .string ⟨#[]⟩, .slice none 0 0, .slice none 0 0, .slice none 0 0, .slice rh.oa rl.length rh.cap]) HP_8.out rfl
        rw [← hW] at hs0
        clear hW
        have hb := hs0.1
        have hoth := hs0.2.1
        have hbx := hs0.2.2
        have HP_9 := Lib.hid (show W9.heap[P]? = some (.cells #[.int .i64 4, .int .i64 0, .string ⟨#[]⟩, .int .i64 0, .string ⟨#[]⟩, .slice none 0 0, .string xn, .slice xh.oa xp.length xh.cap, .int .i64 0, .slice none 0 0, .string ⟨#[]⟩, .slice none 0 0, .string ⟨#[]⟩, .string ⟨#[]⟩, .bool false, .int .i64 0, .string ⟨#[]⟩, .slice none 0 0, .slice none 0 0, .slice none 0 0, .slice rh.oa rl.length rh.cap] 108) by exact hbx)
        have HX9 := Lib.hid ((hoth B HNP.out.2.2.2.2).trans HX8.out)
        have HK9 := Lib.hid (HK8.out.box HNP.out.2.1 hb hoth)
        have HH9 := Lib.hid (HH8.out.box hb hoth HNP.out.1.symm HNP.out.2.2.1 HNP.out.2.2.2.1)
        have HJ9 := Lib.hid HJ8.out
        have hu := und_box (B := W4.heap.size) (B' := W4.heap.size) hb hoth (blk_lt HP_4.out) (Nat.le_refl _)
        have HUo' := Lib.hid (PlH.und _ _ _ hu HUo.out)
        clear hu HUo
        have HUo := Lib.hid HUo'.out
        clear HUo'
        have hu := und_box (B := W7.heap.size) (B' := W7.heap.size) hb hoth (blk_lt HP_7.out) (Nat.le_refl _)
        have HUr' := Lib.hid (Row.und HUr.out hu fun _ _ hx => ArH.und _ _ _ _ hu hx)
        clear hu HUr
        have HUr := Lib.hid HUr'.out
        clear HUr'
        clear hb hbx hoth
        clear hs0
        have HRP := Lib.hid (rangeAt_of_box (cs := [.int .i64 4, .int .i64 0, .string ⟨#[]⟩, .int .i64 0, .string ⟨#[]⟩, .slice none 0 0, .string xn, .slice xh.oa xp.length xh.cap, .int .i64 0, .slice none 0 0, .string ⟨#[]⟩, .slice none 0 0, .string ⟨#[]⟩, .string ⟨#[]⟩, .bool false, .int .i64 0, .string ⟨#[]⟩, .slice none 0 0, .slice none 0 0, .slice none 0 0, .slice rh.oa rl.length rh.cap]) (t := 108) HP_9.out)
        go_wp2_with
          (first
            | (refine wpList_load_mid rfl 108 (.tmp 4) rfl P 0 rfl [.int .i64 4, .int .i64 0, .string ⟨#[]⟩, .int .i64 0, .string ⟨#[]⟩, .slice none 0 0, .string xn, .slice xh.oa xp.length xh.cap, .int .i64 0, .slice none 0 0, .string ⟨#[]⟩, .slice none 0 0, .string ⟨#[]⟩, .string ⟨#[]⟩, .bool false, .int .i64 0, .string ⟨#[]⟩, .slice none 0 0, .slice none 0 0, .slice none 0 0, .slice rh.oa rl.length rh.cap] _ HRP.out Tryz.underlying108 rfl (by kernel_rfl) ?_)
            | (refine wpList_store_box rfl 108 (.tmp 2) (.tmp 40) rfl B 0 rfl (.agg #[.int .i64 4, .int .i64 0, .string ⟨#[]⟩, .int .i64 0, .string ⟨#[]⟩, .slice none 0 0, .string xn, .slice xh.oa xp.length xh.cap, .int .i64 0, .slice none 0 0, .string ⟨#[]⟩, .slice none 0 0, .string ⟨#[]⟩, .string ⟨#[]⟩, .bool false, .int .i64 0, .string ⟨#[]⟩, .slice none 0 0, .slice none 0 0, .slice none 0 0, .slice rh.oa rl.length rh.cap]) rfl [.int .i64 4, .int .i64 0, .string ⟨#[]⟩, .int .i64 0, .string ⟨#[]⟩, .slice none 0 0, .string xn, .slice xh.oa xp.length xh.cap, .int .i64 0, .slice none 0 0, .string ⟨#[]⟩, .slice none 0 0, .string ⟨#[]⟩, .string ⟨#[]⟩, .bool false, .int .i64 0, .string ⟨#[]⟩, .slice none 0 0, .slice none 0 0, .slice none 0 0, .slice rh.oa rl.length rh.cap] rfl [.int .i64 0, .int .i64 0, .string ⟨#[]⟩, .int .i64 0, .string ⟨#[]⟩, .slice none 0 0, .string ⟨#[]⟩, .slice none 0 0, .int .i64 0, .slice none 0 0, .string ⟨#[]⟩, .slice none 0 0, .string ⟨#[]⟩, .string ⟨#[]⟩, .bool false, .int .i64 0, .string ⟨#[]⟩, .slice none 0 0, .slice none 0 0, .slice none 0 0, .slice none 0 0] 108 HX9.out (Nat.le_refl _) (show (Tryz.prog.info? 108).map (·.size) = some 21 by kernel_rfl) ?c1 B (Nat.le_refl _) W9 (Below.refl _ _) ?_))
        case c1 => first | exact ⟨rfl, rfl, rfl, rfl, rfl, rfl, rfl, rfl, rfl, rfl, rfl, rfl, rfl, rfl, rfl, rfl, rfl, rfl, rfl, rfl, rfl⟩ | exact rfl | (intro v hv; simp at hv; first | (rcases hv with rfl | rfl | rfl | rfl | rfl | rfl | rfl | rfl | rfl | rfl | rfl | rfl | rfl | rfl | rfl | rfl | rfl | rfl | rfl | rfl | rfl <;> rfl) | (rcases hv with rfl | rfl | rfl | rfl | rfl | rfl | rfl | rfl | rfl | rfl | rfl | rfl | rfl | rfl | rfl | rfl | rfl | rfl | rfl | rfl <;> rfl) | (rcases hv with rfl | rfl | rfl | rfl | rfl | rfl | rfl | rfl | rfl | rfl | rfl | rfl | rfl | rfl | rfl | rfl | rfl | rfl | rfl <;> rfl) | (rcases hv with rfl | rfl | rfl | rfl | rfl | rfl | rfl | rfl | rfl | rfl | rfl | rfl | rfl | rfl | rfl | rfl | rfl | rfl <;> rfl) | (rcases hv with rfl | rfl | rfl | rfl | rfl | rfl | rfl | rfl | rfl | rfl | rfl | rfl | rfl | rfl | rfl | rfl | rfl <;> rfl) | (rcases hv with rfl | rfl | rfl | rfl | rfl | rfl | rfl | rfl | rfl | rfl | rfl | rfl | rfl | rfl | rfl | rfl <;> rfl) | (rcases hv with rfl | rfl | rfl | rfl | rfl | rfl | rfl | rfl | rfl | rfl | rfl | rfl | rfl | rfl | rfl <;> rfl) | (rcases hv with rfl | rfl | rfl | rfl | rfl | rfl | rfl | rfl | rfl | rfl | rfl | rfl | rfl | rfl <;> rfl) | (rcases hv with rfl | rfl | rfl | rfl | rfl | rfl | rfl | rfl | rfl | rfl | rfl | rfl | rfl <;> rfl) | (rcases hv with rfl | rfl | rfl | rfl | rfl | rfl | rfl | rfl | rfl | rfl | rfl | rfl <;> rfl) | (rcases hv with rfl | rfl | rfl | rfl | rfl | rfl | rfl | rfl | rfl | rfl | rfl <;> rfl) | (rcases hv with rfl | rfl | rfl | rfl | rfl | rfl | rfl | rfl | rfl | rfl <;> rfl) | (rcases hv with rfl | rfl | rfl | rfl | rfl | rfl | rfl | rfl | rfl <;> rfl) | (rcases hv with rfl | rfl | rfl | rfl | rfl | rfl | rfl | rfl <;> rfl) | (rcases hv with rfl | rfl | rfl | rfl | rfl | rfl | rfl <;> rfl) | (rcases hv with rfl | rfl | rfl | rfl | rfl | rfl <;> rfl) | (rcases hv with rfl | rfl | rfl | rfl | rfl <;> rfl) | (rcases hv with rfl | rfl | rfl | rfl <;> rfl) | (rcases hv with rfl | rfl | rfl <;> rfl) | (rcases hv with rfl | rfl <;> rfl) | (subst hv; rfl))
        intro WF hb hbx hoth
        have HF := Lib.hid (And.intro (HK9.out.box HBb.out.2.2.2 hb hoth) (HH9.out.box hb hoth HBb.out.1.symm HBb.out.2.1 HBb.out.2.2.1))
        have hu := und_box (B := W4.heap.size) (B' := w.heap.size) hb hoth (blk_lt HX4.out) HK4.out.size
        have HUoF := Lib.hid (PlH.und _ _ _ hu HUo.out)
        clear hu
        have hu := und_box (B := W7.heap.size) (B' := w.heap.size) hb hoth (blk_lt HX7.out) HK7.out.size
        have HUrF := Lib.hid (Row.und HUr.out hu fun _ _ hx => ArH.und _ _ _ _ hu hx)
        clear hu
        clear hb
        have HRG := Lib.hid (rangeAt_of_box (w := WF) (b := B) (cs := [.int .i64 4, .int .i64 0, .string ⟨#[]⟩, .int .i64 0, .string ⟨#[]⟩, .slice none 0 0, .string xn, .slice xh.oa xp.length xh.cap, .int .i64 0, .slice none 0 0, .string ⟨#[]⟩, .slice none 0 0, .string ⟨#[]⟩, .string ⟨#[]⟩, .bool false, .int .i64 0, .string ⟨#[]⟩, .slice none 0 0, .slice none 0 0, .slice none 0 0, .slice rh.oa rl.length rh.cap]) (t := 108) (by have h := hbx; rw [splL_all [.int .i64 4, .int .i64 0, .string ⟨#[]⟩, .int .i64 0, .string ⟨#[]⟩, .slice none 0 0, .string xn, .slice xh.oa xp.length xh.cap, .int .i64 0, .slice none 0 0, .string ⟨#[]⟩, .slice none 0 0, .string ⟨#[]⟩, .string ⟨#[]⟩, .bool false, .int .i64 0, .string ⟨#[]⟩, .slice none 0 0, .slice none 0 0, .slice none 0 0, .slice rh.oa rl.length rh.cap] [.int .i64 0, .int .i64 0, .string ⟨#[]⟩, .int .i64 0, .string ⟨#[]⟩, .slice none 0 0, .string ⟨#[]⟩, .slice none 0 0, .int .i64 0, .slice none 0 0, .string ⟨#[]⟩, .slice none 0 0, .string ⟨#[]⟩, .string ⟨#[]⟩, .bool false, .int .i64 0, .string ⟨#[]⟩, .slice none 0 0, .slice none 0 0, .slice none 0 0, .slice none 0 0] rfl] at h; exact h))
        go_wp2
        exact bodyPost_ret (v := .tuple #[.agg #[.int .i64 4, .int .i64 0, .string ⟨#[]⟩, .int .i64 0, .string ⟨#[]⟩, .slice none 0 0, .string xn, .slice xh.oa xp.length xh.cap, .int .i64 0, .slice none 0 0, .string ⟨#[]⟩, .slice none 0 0, .string ⟨#[]⟩, .string ⟨#[]⟩, .bool false, .int .i64 0, .string ⟨#[]⟩, .slice none 0 0, .slice none 0 0, .slice none 0 0, .slice rh.oa rl.length rh.cap], .bool true]) (results_two rfl rfl rfl HRG.out Tryz.underlying108 rfl (by kernel_rfl)) rfl (RPost.done HF.out.1 (HQ.out.symm.trans (map_ok HR.out)) HJ9.out HF.out.2 ⟨(.mk 4 0 nil5 ty0 ⟨xn, xh, xp⟩ rv0 op0 h0 [] h0 [] rh rl : St5), rfl, by rw [erSt, erArs_eq, HEr.out]; rfl, (by unfold StH; exact ⟨(show I64 4 from ⟨by decide, by decide⟩), TyH.le (show 1 ≤ n + 62 by omega) ⟨(show I64 0 from ⟨by decide, by decide⟩), Row.nil _ _ _ _⟩, HUoF.out, ⟨(show I64 0 from ⟨by decide, by decide⟩), Row.nil _ _ _ _, Row.nil _ _ _ _⟩, ⟨(show I64 0 from ⟨by decide, by decide⟩), Row.nil _ _ _ _⟩, Row.nil _ _ _ _, Row.nil _ _ _ _, (Row.mono HUrF.out fun _ _ hx => ArH.le (by omega) hx)⟩)⟩)
      · have HS := Lib.hid hts
        clear hts
        go_upto_region 2 with (go_at_call 172; refine HTK.out.mono ?_; rintro e W4 ⟨-, h1⟩; obtain ⟨rfl, hb⟩ := h1 HS.out; have hk := Kb.of_below (b := b) hb; have HK4 := Lib.hid (HK3.out.trans hk); have HH4 := Lib.hid (HH3.out.under hb); have HJ4 := Lib.hid HJ3.out; have HX4 := Lib.hid (hk.kept HX3.out HBb.out.1); have HP_4 := Lib.hid (hk.kept HP_3.out HNP.out.1); have HKK4 := Lib.hid hk; clear h1 hk hb HTK)
        have hQ := HQ.out
        rw [opt_no HH3.out HT4.out HS.out] at hQ
        replace HQ := Lib.hid hQ
        clear hQ HS
        go_wp2_with (refine wpList_store_box rfl 108 (.tmp 2) (.tmp 5) rfl B 0 rfl (.agg #[.int .i64 0, .int .i64 0, .string ⟨#[]⟩, .int .i64 0, .string ⟨#[]⟩, .slice none 0 0, .string ⟨#[]⟩, .slice none 0 0, .int .i64 0, .slice none 0 0, .string ⟨#[]⟩, .slice none 0 0, .string ⟨#[]⟩, .string ⟨#[]⟩, .bool false, .int .i64 0, .string ⟨#[]⟩, .slice none 0 0, .slice none 0 0, .slice none 0 0, .slice none 0 0]) rfl [.int .i64 0, .int .i64 0, .string ⟨#[]⟩, .int .i64 0, .string ⟨#[]⟩, .slice none 0 0, .string ⟨#[]⟩, .slice none 0 0, .int .i64 0, .slice none 0 0, .string ⟨#[]⟩, .slice none 0 0, .string ⟨#[]⟩, .string ⟨#[]⟩, .bool false, .int .i64 0, .string ⟨#[]⟩, .slice none 0 0, .slice none 0 0, .slice none 0 0, .slice none 0 0] rfl [.int .i64 0, .int .i64 0, .string ⟨#[]⟩, .int .i64 0, .string ⟨#[]⟩, .slice none 0 0, .string ⟨#[]⟩, .slice none 0 0, .int .i64 0, .slice none 0 0, .string ⟨#[]⟩, .slice none 0 0, .string ⟨#[]⟩, .string ⟨#[]⟩, .bool false, .int .i64 0, .string ⟨#[]⟩, .slice none 0 0, .slice none 0 0, .slice none 0 0, .slice none 0 0] 108 HX4.out (Nat.le_refl _) (show (Tryz.prog.info? 108).map (·.size) = some 21 by kernel_rfl) ?c1 B (Nat.le_refl _) W4 (Below.refl _ _) ?_)
        case c1 => first | exact ⟨rfl, rfl, rfl, rfl, rfl, rfl, rfl, rfl, rfl, rfl, rfl, rfl, rfl, rfl, rfl, rfl, rfl, rfl, rfl, rfl, rfl⟩ | exact rfl | (intro v hv; simp at hv; first | (rcases hv with rfl | rfl | rfl | rfl | rfl | rfl | rfl | rfl | rfl | rfl | rfl | rfl | rfl | rfl | rfl | rfl | rfl | rfl | rfl | rfl | rfl <;> rfl) | (rcases hv with rfl | rfl | rfl | rfl | rfl | rfl | rfl | rfl | rfl | rfl | rfl | rfl | rfl | rfl | rfl | rfl | rfl | rfl | rfl | rfl <;> rfl) | (rcases hv with rfl | rfl | rfl | rfl | rfl | rfl | rfl | rfl | rfl | rfl | rfl | rfl | rfl | rfl | rfl | rfl | rfl | rfl | rfl <;> rfl) | (rcases hv with rfl | rfl | rfl | rfl | rfl | rfl | rfl | rfl | rfl | rfl | rfl | rfl | rfl | rfl | rfl | rfl | rfl | rfl <;> rfl) | (rcases hv with rfl | rfl | rfl | rfl | rfl | rfl | rfl | rfl | rfl | rfl | rfl | rfl | rfl | rfl | rfl | rfl | rfl <;> rfl) | (rcases hv with rfl | rfl | rfl | rfl | rfl | rfl | rfl | rfl | rfl | rfl | rfl | rfl | rfl | rfl | rfl | rfl <;> rfl) | (rcases hv with rfl | rfl | rfl | rfl | rfl | rfl | rfl | rfl | rfl | rfl | rfl | rfl | rfl | rfl | rfl <;> rfl) | (rcases hv with rfl | rfl | rfl | rfl | rfl | rfl | rfl | rfl | rfl | rfl | rfl | rfl | rfl | rfl <;> rfl) | (rcases hv with rfl | rfl | rfl | rfl | rfl | rfl | rfl | rfl | rfl | rfl | rfl | rfl | rfl <;> rfl) | (rcases hv with rfl | rfl | rfl | rfl | rfl | rfl | rfl | rfl | rfl | rfl | rfl | rfl <;> rfl) | (rcases hv with rfl | rfl | rfl | rfl | rfl | rfl | rfl | rfl | rfl | rfl | rfl <;> rfl) | (rcases hv with rfl | rfl | rfl | rfl | rfl | rfl | rfl | rfl | rfl | rfl <;> rfl) | (rcases hv with rfl | rfl | rfl | rfl | rfl | rfl | rfl | rfl | rfl <;> rfl) | (rcases hv with rfl | rfl | rfl | rfl | rfl | rfl | rfl | rfl <;> rfl) | (rcases hv with rfl | rfl | rfl | rfl | rfl | rfl | rfl <;> rfl) | (rcases hv with rfl | rfl | rfl | rfl | rfl | rfl <;> rfl) | (rcases hv with rfl | rfl | rfl | rfl | rfl <;> rfl) | (rcases hv with rfl | rfl | rfl | rfl <;> rfl) | (rcases hv with rfl | rfl | rfl <;> rfl) | (rcases hv with rfl | rfl <;> rfl) | (subst hv; rfl))
        intro WF hb hbx hoth
        have HF := Lib.hid (And.intro (HK4.out.box HBb.out.2.2.2 hb hoth) (HH4.out.box hb hoth HBb.out.1.symm HBb.out.2.1 HBb.out.2.2.1))
        clear hb
        have HRG := Lib.hid (rangeAt_of_box (w := WF) (b := B) (cs := [.int .i64 0, .int .i64 0, .string ⟨#[]⟩, .int .i64 0, .string ⟨#[]⟩, .slice none 0 0, .string ⟨#[]⟩, .slice none 0 0, .int .i64 0, .slice none 0 0, .string ⟨#[]⟩, .slice none 0 0, .string ⟨#[]⟩, .string ⟨#[]⟩, .bool false, .int .i64 0, .string ⟨#[]⟩, .slice none 0 0, .slice none 0 0, .slice none 0 0, .slice none 0 0]) (t := 108) (by have h := hbx; rw [splL_all [.int .i64 0, .int .i64 0, .string ⟨#[]⟩, .int .i64 0, .string ⟨#[]⟩, .slice none 0 0, .string ⟨#[]⟩, .slice none 0 0, .int .i64 0, .slice none 0 0, .string ⟨#[]⟩, .slice none 0 0, .string ⟨#[]⟩, .string ⟨#[]⟩, .bool false, .int .i64 0, .string ⟨#[]⟩, .slice none 0 0, .slice none 0 0, .slice none 0 0, .slice none 0 0] [.int .i64 0, .int .i64 0, .string ⟨#[]⟩, .int .i64 0, .string ⟨#[]⟩, .slice none 0 0, .string ⟨#[]⟩, .slice none 0 0, .int .i64 0, .slice none 0 0, .string ⟨#[]⟩, .slice none 0 0, .string ⟨#[]⟩, .string ⟨#[]⟩, .bool false, .int .i64 0, .string ⟨#[]⟩, .slice none 0 0, .slice none 0 0, .slice none 0 0, .slice none 0 0] rfl] at h; exact h))
        go_wp2
        exact bodyPost_ret (v := .tuple #[.agg #[.int .i64 0, .int .i64 0, .string ⟨#[]⟩, .int .i64 0, .string ⟨#[]⟩, .slice none 0 0, .string ⟨#[]⟩, .slice none 0 0, .int .i64 0, .slice none 0 0, .string ⟨#[]⟩, .slice none 0 0, .string ⟨#[]⟩, .string ⟨#[]⟩, .bool false, .int .i64 0, .string ⟨#[]⟩, .slice none 0 0, .slice none 0 0, .slice none 0 0, .slice none 0 0], .bool false]) (results_two rfl rfl rfl HRG.out Tryz.underlying108 rfl (by kernel_rfl)) rfl (RPost.done HF.out.1 HQ.out.symm HJ4.out HF.out.2 ⟨_, rfl, rfl⟩)
end Go.Proofs.YtggdpgaedmegbaaGreatDoor
