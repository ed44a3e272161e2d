/-
  Types within one another. Conditions: the reader lies in the heap.
-/
import Derived.Test.YtggdpgaedmegbaaGreatDoorJPRules
namespace Go.Proofs.YtggdpgaedmegbaaGreatDoor
open Go.RowKit

set_option maxRecDepth 100000 in
set_option maxHeartbeats 4000000 in
theorem r_of {w : World} {b g cap : Nat} {ts : List Tok} {i dp : Nat} (H : RdAt w b g cap ts i dp) {n : Nat} (hT : TyC n) (d : Nat) (hd : d + 1 + n = 61) (kz : Int) (hkz : I64 kz) {p0 p1 : Nat} (h0p : w.heap[p0]? = some (.cells #[.pointer (some ⟨b, 0, none⟩)] 251)) (h1p : w.heap[p1]? = some (.cells #[.int .i64 d] 3)) (n0 : p0 ≠ b) (n1 : p1 ≠ b) :
    Calls Tryz.prog 326 #[.int .i64 kz, .pointer (some ⟨p0, 0, none⟩), .pointer (some ⟨p1, 0, none⟩)] w (RPost w b g cap ts i dp ((fun l => mapR (tyR n) (fun t => Ty5.mk kz nil5 h0 [t]) l) (ts.drop i)) (VTy (n + 2))) := by
  have HP0 := Lib.hid h0p
  have HP1 := Lib.hid h1p
  have HD := Lib.hid (And.intro hd (And.intro n0 n1))
  clear h0p h1p hd n0 n1
  obtain ⟨r, hQ⟩ : ∃ r, (fun l => mapR (tyR n) (fun t => Ty5.mk kz nil5 h0 [t]) l) (ts.drop i) = r := ⟨_, rfl⟩
  rw [hQ]
  have HQ := Lib.hid hQ
  clear hQ
  have HGB := Lib.hid (And.intro H.toks.1 H.vars.size)
  have HBW := Lib.hid (show b < w.heap.size from (Array.getElem?_eq_some_iff.1 H.at_).1)
  have HJ0 := Lib.hid (Nat.le_refl i)
  obtain ⟨W0, hW⟩ : ∃ W0, W0 = w.alloc (.cells #[.int .i64 0, .string ⟨#[]⟩, .slice none 0 0] 51) := ⟨_, rfl⟩
  have hbW : Below w.heap.size w W0 := by rw [hW]; exact alloc_below _ _
  have hx0 : W0.heap[w.heap.size]? = some (.cells #[.int .i64 0, .string ⟨#[]⟩, .slice none 0 0] 51) := by rw [hW, heap_alloc_new]
  have HH0 := Lib.hid (H.under hbW)
  have HK0 := Lib.hid (Kb.of_below (b := b) hbW)
  obtain ⟨B, hB⟩ : ∃ B, B = w.heap.size := ⟨_, rfl⟩
  rw [← hB] at hx0
  have HX0 := Lib.hid hx0
  clear hbW hx0 H
  go_enter Tryz.func326, Tryz.ntmps326
  go_upto_region 1 with fail
  rw [← hW]
  simp only [← hB]
  clear hW
  have HBb := Lib.hid (show B ≠ b ∧ g ≠ B ∧ nG ≤ B ∧ w.heap.size ≤ B by have h1 := HBW.out; have h2 := HGB.out; rw [hB]; exact ⟨by omega, by omega, h2.2, Nat.le_refl _⟩)
  replace hB := Lib.hid hB
  have HA0_0 := Lib.hid (HK0.out.kept HP0.out HD.out.2.1)
  have HA1_0 := Lib.hid (HK0.out.kept HP1.out HD.out.2.2)
  have HN0 := Lib.hid (And.intro HD.out.2.1 True.intro)
  have HN1 := Lib.hid (And.intro HD.out.2.2 True.intro)
  have hw : wrap64 ((d : Int) + 1) = (d : Int) + 1 := by have := HD.out.1; unfold wrap64; omega
  have hcc := hT (d + 1) HD.out.1 HH0.out
  rw [show (((d + 1 : Nat)) : Int) = (d : Int) + 1 by omega] at hcc
  have hc := hcc
  have HC := Lib.hid hc
  clear hc
  rcases hr : tyR n (ts.drop i) with ⟨a1, l1⟩ | ⟨er, p⟩
  rotate_left
  · have HR := Lib.hid hr
    clear hr
    obtain ⟨x0, xf, xl⟩ := cells1p HA0_0.out
    obtain ⟨y0, yf, yl⟩ := cells1p HA1_0.out
    go_wp2_with (go_at_call 313; refine HC.out.mono ?_; rintro e W1 hp; obtain ⟨he, hk⟩ := hp.no HR.out; unfold faultE at he; subst he; have HK1 := Lib.hid (HK0.out.trans hk); clear hk hp HC)
    exact ⟨rfl, RPost.fault HK1.out (HQ.out.symm.trans (bind_no HR.out))⟩
  have HR := Lib.hid hr
  clear hr
  obtain ⟨x0, xf, xl⟩ := cells1p HA0_0.out
  obtain ⟨y0, yf, yl⟩ := cells1p HA1_0.out
  go_wp2_with
    (first
      | (go_at_call 313; refine HC.out.mono ?_; rintro e W1 hp; obtain ⟨hk, j1, v1, rfl, hl, hj, hrd, hv⟩ := hp.ok HR.out; subst hl; obtain ⟨x1, rfl, rfl, hp⟩ := hv; obtain ⟨kk, nm, hh1, ll⟩ := x1; simp only [tyV, tyC]; have HP := Lib.hid hp; clear hp; have HK1 := Lib.hid (HK0.out.trans hk); have HKK1 := Lib.hid hk; have HH1 := Lib.hid hrd; have HJ1 := Lib.hid (Nat.le_trans HJ0.out hj); have HX1 := Lib.hid (hk.kept HX0.out HBb.out.1); have HA0_1 := Lib.hid (hk.kept HA0_0.out HN0.out.1); have HA1_1 := Lib.hid (hk.kept HA1_0.out HN1.out.1); clear hk hp hrd hj HC)
      | (refine wpList_store_box rfl 51 (.tmp 4) (.tmp 11) rfl B 0 rfl (.agg #[.int .i64 kz, .string ⟨#[]⟩, .slice (some ⟨W1.heap.size, 0, none⟩) 1 1]) rfl [.int .i64 kz, .string ⟨#[]⟩, .slice (some ⟨W1.heap.size, 0, none⟩) 1 1] rfl [.int .i64 0, .string ⟨#[]⟩, .slice none 0 0] 51 (keepB HX1.out (alloc_below W1 (.cells #[.int .i64 kk, .string nm, .slice hh1.oa ll.length hh1.cap] 51))) (Nat.le_refl _) (show (Tryz.prog.info? 51).map (·.size) = some 3 by kernel_rfl) ?c1 B (Nat.le_refl _) (W1.alloc (.cells #[.int .i64 kk, .string nm, .slice hh1.oa ll.length hh1.cap] 51)) (Below.refl _ _) ?_))
  case c1 => first | exact ⟨rfl, rfl, rfl⟩ | (intro v hv; simp at hv; rcases hv with rfl | rfl | rfl <;> rfl)
  intro WF hb hbx hoth
  have hne : W1.heap.size ≠ B := fun e => by have := blk_lt HX1.out; omega
  have HF := Lib.hid (And.intro ((HK1.out.alloc (.cells #[.int .i64 kk, .string nm, .slice hh1.oa ll.length hh1.cap] 51)).box HBb.out.2.2.2 hb hoth) ((HH1.out.under (alloc_below W1 (.cells #[.int .i64 kk, .string nm, .slice hh1.oa ll.length hh1.cap] 51))).box hb hoth HBb.out.1.symm HBb.out.2.1 HBb.out.2.2.1))
  have HZ := Lib.hid ((hoth _ hne).trans (heap_alloc_new W1 (.cells #[.int .i64 kk, .string nm, .slice hh1.oa ll.length hh1.cap] 51)))
  have HU := Lib.hid (TyH.und _ _ _ _ ((eb_und (B := W0.heap.size) (B' := W0.heap.size) (og := none) (og' := none) (alloc_below W1 (.cells #[.int .i64 kk, .string nm, .slice hh1.oa ll.length hh1.cap] 51)).size fun x hx h1 h2 => ⟨h1, h2, (alloc_below W1 (.cells #[.int .i64 kk, .string nm, .slice hh1.oa ll.length hh1.cap] 51)).block x hx⟩).trans (und_box hb hoth (blk_lt HX0.out) HK0.out.size)) HP.out)
  clear hb hne
  obtain ⟨q0, q1, q2, qf, ql⟩ := cells3p (show WF.heap[B]? = some (.cells #[.int .i64 kz, .string ⟨#[]⟩, .slice (some ⟨W1.heap.size, 0, none⟩) 1 1] 51) from hbx)
  have HS := Lib.hid HK1.out.size
  go_wp2
  refine bodyPost_ret (v := .agg #[.int .i64 kz, .string ⟨#[]⟩, .slice (some ⟨W1.heap.size, 0, none⟩) 1 1]) (by simp [results, Tryz.results326, go_sem, q0, q1, q2]) rfl (RPost.done HF.out.1 (HQ.out.symm.trans (map_ok HR.out)) HJ1.out HF.out.2 ⟨.mk kz nil5 ⟨some ⟨W1.heap.size, 0, none⟩, 1⟩ [.mk kk nm hh1 ll], rfl, by rw [erTy, erTys, erTys], ?_⟩)
  exact ⟨hkz, row_lit (xs := [Ty5.mk kk nm hh1 ll]) HZ.out tyC_len HS.out (show 1 ≤ maxLen by decide) fun x hx => by
    obtain rfl : x = Ty5.mk kk nm hh1 ll := by simpa using hx
    exact HU.out⟩
set_option maxRecDepth 100000 in
set_option maxHeartbeats 4000000 in
theorem ty_zero {w : World} {b g cap : Nat} {ts : List Tok} {i dp : Nat} (H : RdAt w b g cap ts i dp) (d : Nat) (hd : d = 61) :
    Calls Tryz.prog 313 #[.pointer (some ⟨b, 0, none⟩), .int .i64 d] w (RPost w b g cap ts i dp ((tyR 0) (ts.drop i)) (VTy 1)) := by
  have HD := Lib.hid hd
  clear hd
  obtain ⟨r, hQ⟩ : ∃ r, (tyR 0) (ts.drop i) = r := ⟨_, rfl⟩
  rw [hQ]
  have HQ := Lib.hid hQ
  clear hQ
  have HGB := Lib.hid (And.intro H.toks.1 H.vars.size)
  have HBW := Lib.hid (show b < w.heap.size from (Array.getElem?_eq_some_iff.1 H.at_).1)
  have HJ0 := Lib.hid (Nat.le_refl i)
  obtain ⟨W0, hW⟩ : ∃ W0, W0 = ((w.alloc (.cells #[.pointer (some ⟨b, 0, none⟩)] 251)).alloc (.cells #[.int .i64 d] 3)).alloc (.cells #[.int .i64 0, .string ⟨#[]⟩, .slice none 0 0] 51) := ⟨_, rfl⟩
  obtain ⟨hbW, hx0, hx1, hx2⟩ := pal3 w (.cells #[.pointer (some ⟨b, 0, none⟩)] 251) (.cells #[.int .i64 d] 3) (.cells #[.int .i64 0, .string ⟨#[]⟩, .slice none 0 0] 51)
  rw [← hW] at hbW hx0 hx1 hx2
  have HH0 := Lib.hid (H.under hbW)
  have HK0 := Lib.hid (Kb.of_below (b := b) hbW)
  obtain ⟨A0, hA0⟩ : ∃ A0, A0 = w.heap.size := ⟨_, rfl⟩
  obtain ⟨A1, hA1⟩ : ∃ A, A = A0 + 1 := ⟨_, rfl⟩
  obtain ⟨B, hB⟩ : ∃ B, B = A1 + 1 := ⟨_, rfl⟩
  rw [← hA0] at hx0 hx1 hx2
  rw [← hA1] at hx1 hx2
  rw [← hB] at hx2
  have HX0 := Lib.hid hx2
  have HA0_0 := Lib.hid hx0
  have HA1_0 := Lib.hid hx1
  clear hbW hx0 hx1 hx2 H
  go_enter Tryz.func313, Tryz.ntmps313
  go_upto_region 1 with fail
  rw [← hW]
  simp only [← hA0, ← hA1, ← hB]
  clear hW
  have HBb := Lib.hid (show B ≠ b ∧ g ≠ B ∧ nG ≤ B ∧ w.heap.size ≤ B by have h1 := HBW.out; have h2 := HGB.out; exact ⟨by omega, by omega, by omega, by omega⟩)
  have HN0 := Lib.hid (show A0 ≠ b ∧ A0 ≠ B by have h1 := HBW.out; exact ⟨by omega, by omega⟩)
  have HN1 := Lib.hid (show A1 ≠ b ∧ A1 ≠ B by have h1 := HBW.out; exact ⟨by omega, by omega⟩)
  replace hA0 := Lib.hid hA0
  replace hA1 := Lib.hid hA1
  replace hB := Lib.hid hB
  have hmf : ∀ (fn : Fn) (first cap : Array Value) (w : World), (Instr.makeFunc fn first cap).run Tryz.prog w = .ok (.func fn first cap) w := fun _ _ _ _ => rfl
  have hdd : decide ((d : Int) > 60) = true := by have := HD.out; simp; omega
  obtain ⟨t, ht, hh, -⟩ := HH0.out.tok
  have HF := Lib.hid (fail_any HH0.out ht 61)
  have HP := Lib.hid (show tyR 0 (ts.drop i) = .no 61 t.pos by unfold tyR failR; rw [hh])
  clear ht hh
  obtain ⟨x0, xf, xl⟩ := cells1p HA0_0.out
  obtain ⟨y0, yf, yl⟩ := cells1p HA1_0.out
  go_wp2_with (go_at_call 284; refine HF.out.mono ?_; rintro e w2 ⟨he, hb2⟩; unfold faultE at he; subst he; have HB2 := Lib.hid hb2; clear hb2 HF)
  exact ⟨rfl, RPost.fault (HK0.out.trans (Kb.of_below HB2.out)) (HQ.out.symm.trans HP.out)⟩
set_option maxRecDepth 100000 in
set_option maxHeartbeats 4000000 in
theorem ty_succ {w : World} {b g cap : Nat} {ts : List Tok} {i dp : Nat} (H : RdAt w b g cap ts i dp) {n : Nat} (hT : TyC n) (d : Nat) (hd : d + 1 + n = 61) :
    Calls Tryz.prog 313 #[.pointer (some ⟨b, 0, none⟩), .int .i64 d] w (RPost w b g cap ts i dp ((tyR (n + 1)) (ts.drop i)) (VTy (n + 2))) := by
  have HD := Lib.hid hd
  clear hd
  obtain ⟨r, hQ⟩ : ∃ r, (tyR (n + 1)) (ts.drop i) = r := ⟨_, rfl⟩
  rw [hQ]
  have HQ := Lib.hid hQ
  clear hQ
  have HGB := Lib.hid (And.intro H.toks.1 H.vars.size)
  have HBW := Lib.hid (show b < w.heap.size from (Array.getElem?_eq_some_iff.1 H.at_).1)
  have HJ0 := Lib.hid (Nat.le_refl i)
  obtain ⟨W0, hW⟩ : ∃ W0, W0 = ((w.alloc (.cells #[.pointer (some ⟨b, 0, none⟩)] 251)).alloc (.cells #[.int .i64 d] 3)).alloc (.cells #[.int .i64 0, .string ⟨#[]⟩, .slice none 0 0] 51) := ⟨_, rfl⟩
  obtain ⟨hbW, hx0, hx1, hx2⟩ := pal3 w (.cells #[.pointer (some ⟨b, 0, none⟩)] 251) (.cells #[.int .i64 d] 3) (.cells #[.int .i64 0, .string ⟨#[]⟩, .slice none 0 0] 51)
  rw [← hW] at hbW hx0 hx1 hx2
  have HH0 := Lib.hid (H.under hbW)
  have HK0 := Lib.hid (Kb.of_below (b := b) hbW)
  obtain ⟨A0, hA0⟩ : ∃ A0, A0 = w.heap.size := ⟨_, rfl⟩
  obtain ⟨A1, hA1⟩ : ∃ A, A = A0 + 1 := ⟨_, rfl⟩
  obtain ⟨B, hB⟩ : ∃ B, B = A1 + 1 := ⟨_, rfl⟩
  rw [← hA0] at hx0 hx1 hx2
  rw [← hA1] at hx1 hx2
  rw [← hB] at hx2
  have HX0 := Lib.hid hx2
  have HA0_0 := Lib.hid hx0
  have HA1_0 := Lib.hid hx1
  clear hbW hx0 hx1 hx2 H
  go_enter Tryz.func313, Tryz.ntmps313
  go_upto_region 1 with fail
  rw [← hW]
  simp only [← hA0, ← hA1, ← hB]
  clear hW
  have HBb := Lib.hid (show B ≠ b ∧ g ≠ B ∧ nG ≤ B ∧ w.heap.size ≤ B by have h1 := HBW.out; have h2 := HGB.out; exact ⟨by omega, by omega, by omega, by omega⟩)
  have HN0 := Lib.hid (show A0 ≠ b ∧ A0 ≠ B by have h1 := HBW.out; exact ⟨by omega, by omega⟩)
  have HN1 := Lib.hid (show A1 ≠ b ∧ A1 ≠ B by have h1 := HBW.out; exact ⟨by omega, by omega⟩)
  replace hA0 := Lib.hid hA0
  replace hA1 := Lib.hid hA1
  replace hB := Lib.hid hB
  have hmf : ∀ (fn : Fn) (first cap : Array Value) (w : World), (Instr.makeFunc fn first cap).run Tryz.prog w = .ok (.func fn first cap) w := fun _ _ _ _ => rfl
  have hdd : decide ((d : Int) > 60) = false := by have := HD.out; simp; omega
  obtain ⟨x0, xf, xl⟩ := cells1p HA0_0.out
  obtain ⟨y0, yf, yl⟩ := cells1p HA1_0.out
  go_upto_region 4 with fail
  clear hdd hmf
  clear x0 xf xl y0 yf yl
  obtain ⟨t1, ht1, hh, -⟩ := HH0.out.tok
  have htk := takes_any HH0.out ht1 wInt (by decide)
  have HTK := Lib.hid htk
  have HT1 := Lib.hid ht1
  clear htk hh ht1
  by_cases hts : t1.text = wInt
  · have HS := Lib.hid hts
    clear hts
    obtain ⟨x0, xf, xl⟩ := cells1p HA0_0.out
    obtain ⟨y0, yf, yl⟩ := cells1p HA1_0.out
    go_upto_region 5 with (go_at_call 172; refine HTK.out.mono ?_; rintro e W1 ⟨h1, -⟩; obtain ⟨rfl, hk, hrd⟩ := h1 HS.out; have HK1 := Lib.hid (HK0.out.trans hk); have HH1 := Lib.hid hrd; have HJ1 := Lib.hid (Nat.le_succ_of_le HJ0.out); have HX1 := Lib.hid (hk.kept HX0.out HBb.out.1); have HA0_1 := Lib.hid (hk.kept HA0_0.out HN0.out.1); have HA1_1 := Lib.hid (hk.kept HA1_0.out HN1.out.1); clear h1 hk hrd HTK)
    have hQ := HQ.out
    unfold tyR at hQ
    rw [opt_yes HH0.out HT1.out HS.out] at hQ
    replace HQ := Lib.hid hQ
    clear hQ HS
    clear x0 xf xl y0 yf yl
    go_wp2_with (refine wpList_store_box rfl 51 (.tmp 4) (.tmp 14) rfl B 0 rfl (.agg #[.int .i64 1, .string ⟨#[]⟩, .slice none 0 0]) rfl [.int .i64 1, .string ⟨#[]⟩, .slice none 0 0] rfl [.int .i64 0, .string ⟨#[]⟩, .slice none 0 0] 51 HX1.out (Nat.le_refl _) (show (Tryz.prog.info? 51).map (·.size) = some 3 by kernel_rfl) ?c1 B (Nat.le_refl _) W1 (Below.refl _ _) ?_)
    case c1 => first | exact rfl | exact ⟨rfl, rfl⟩ | exact ⟨rfl, rfl, rfl⟩ | exact ⟨rfl, rfl, rfl, rfl⟩ | exact ⟨rfl, rfl, rfl, rfl, rfl⟩ | exact ⟨rfl, rfl, rfl, rfl, rfl, rfl⟩ | (intro v hv; simp at hv; first | (rcases hv with rfl | rfl | rfl | rfl | rfl | rfl <;> rfl) | (rcases hv with rfl | rfl | rfl | rfl | rfl <;> rfl) | (rcases hv with rfl | rfl | rfl | rfl <;> rfl) | (rcases hv with rfl | rfl | rfl <;> rfl) | (rcases hv with rfl | rfl <;> rfl) | (subst hv; rfl))
    intro WF hb hbx hoth
    have HF := Lib.hid (And.intro (HK1.out.box HBb.out.2.2.2 hb hoth) (HH1.out.box hb hoth HBb.out.1.symm HBb.out.2.1 HBb.out.2.2.1))
    clear hb
    obtain ⟨q0, q1, q2, qf, ql⟩ := cells3p (show WF.heap[B]? = some (.cells #[.int .i64 1, .string ⟨#[]⟩, .slice none 0 0] 51) from hbx)
    go_wp2
    exact bodyPost_ret (v := .agg #[.int .i64 1, .string ⟨#[]⟩, .slice none 0 0]) (by simp [results, Tryz.results313, go_sem, q0, q1, q2]) rfl (RPost.done HF.out.1 HQ.out.symm HJ1.out HF.out.2 ⟨.mk 1 nil5 h0 [], rfl, by rw [erTy, erTys], ⟨by unfold I64; omega, Row.nil _ _ _ _⟩⟩)
  · have HS := Lib.hid hts
    clear hts
    obtain ⟨x0, xf, xl⟩ := cells1p HA0_0.out
    obtain ⟨y0, yf, yl⟩ := cells1p HA1_0.out
    go_upto_region 6 with (go_at_call 172; refine HTK.out.mono ?_; rintro e W1 ⟨-, h1⟩; obtain ⟨rfl, hb⟩ := h1 HS.out; have hk := Kb.of_below (b := b) hb; have HK1 := Lib.hid (HK0.out.trans hk); have HH1 := Lib.hid (HH0.out.under hb); have HJ1 := Lib.hid HJ0.out; have HX1 := Lib.hid (hk.kept HX0.out HBb.out.1); have HA0_1 := Lib.hid (hk.kept HA0_0.out HN0.out.1); have HA1_1 := Lib.hid (hk.kept HA1_0.out HN1.out.1); clear h1 hk hb HTK)
    have hQ := HQ.out
    unfold tyR at hQ
    rw [opt_no HH0.out HT1.out HS.out] at hQ
    replace HQ := Lib.hid hQ
    clear hQ HS
    clear x0 xf xl y0 yf yl
    obtain ⟨t2, ht2, hh, -⟩ := HH1.out.tok
    have htk := takes_any HH1.out ht2 wCo (by decide)
    have HTK := Lib.hid htk
    have HT2 := Lib.hid ht2
    clear htk hh ht2
    by_cases hts : t2.text = wCo
    · have HS := Lib.hid hts
      clear hts
      obtain ⟨x0, xf, xl⟩ := cells1p HA0_1.out
      obtain ⟨y0, yf, yl⟩ := cells1p HA1_1.out
      go_upto_region 7 with (go_at_call 172; refine HTK.out.mono ?_; rintro e W2 ⟨h1, -⟩; obtain ⟨rfl, hk, hrd⟩ := h1 HS.out; have HK2 := Lib.hid (HK1.out.trans hk); have HH2 := Lib.hid hrd; have HJ2 := Lib.hid (Nat.le_succ_of_le HJ1.out); have HX2 := Lib.hid (hk.kept HX1.out HBb.out.1); have HA0_2 := Lib.hid (hk.kept HA0_1.out HN0.out.1); have HA1_2 := Lib.hid (hk.kept HA1_1.out HN1.out.1); clear h1 hk hrd HTK)
      have hQ := HQ.out
      rw [opt_yes HH1.out HT2.out HS.out] at hQ
      replace HQ := Lib.hid hQ
      clear hQ HS
      clear x0 xf xl y0 yf yl
      have hc := r_small HH2.out
      have HC := Lib.hid hc
      clear hc
      rcases hr : smallR (ts.drop (i + 1)) with ⟨a3, l3⟩ | ⟨er, p⟩
      rotate_left
      · have HR := Lib.hid hr
        clear hr
        obtain ⟨x0, xf, xl⟩ := cells1p HA0_2.out
        obtain ⟨y0, yf, yl⟩ := cells1p HA1_2.out
        go_wp2_with (go_at_call 240; refine HC.out.mono ?_; rintro e W3 hp; obtain ⟨he, hk⟩ := hp.no HR.out; unfold faultE at he; subst he; have HK3 := Lib.hid (HK2.out.trans hk); clear hk hp HC)
        exact ⟨rfl, RPost.fault HK3.out (HQ.out.symm.trans (bind_no HR.out))⟩
      have HR := Lib.hid hr
      clear hr
      obtain ⟨x0, xf, xl⟩ := cells1p HA0_2.out
      obtain ⟨y0, yf, yl⟩ := cells1p HA1_2.out
      go_wp2_with
        (first
          | (go_at_call 240; refine HC.out.mono ?_; rintro e W3 hp; obtain ⟨hk, j3, v3, rfl, hl, hj, hrd, hv⟩ := hp.ok HR.out; subst hl; unfold VStr at hv; subst hv; have HK3 := Lib.hid (HK2.out.trans hk); have HKK3 := Lib.hid hk; have HH3 := Lib.hid hrd; have HJ3 := Lib.hid (Nat.le_trans HJ2.out hj); have HX3 := Lib.hid (hk.kept HX2.out HBb.out.1); have HA0_3 := Lib.hid (hk.kept HA0_2.out HN0.out.1); have HA1_3 := Lib.hid (hk.kept HA1_2.out HN1.out.1); clear hk hp hrd hj HC)
          | (refine wpList_store_box rfl 51 (.tmp 4) (.tmp 20) rfl B 0 rfl (.agg #[.int .i64 7, .string a3, .slice none 0 0]) rfl [.int .i64 7, .string a3, .slice none 0 0] rfl [.int .i64 0, .string ⟨#[]⟩, .slice none 0 0] 51 HX3.out (Nat.le_refl _) (show (Tryz.prog.info? 51).map (·.size) = some 3 by kernel_rfl) ?c1 B (Nat.le_refl _) W3 (Below.refl _ _) ?_))
      case c1 => first | exact rfl | exact ⟨rfl, rfl⟩ | exact ⟨rfl, rfl, rfl⟩ | exact ⟨rfl, rfl, rfl, rfl⟩ | exact ⟨rfl, rfl, rfl, rfl, rfl⟩ | exact ⟨rfl, rfl, rfl, rfl, rfl, rfl⟩ | (intro v hv; simp at hv; first | (rcases hv with rfl | rfl | rfl | rfl | rfl | rfl <;> rfl) | (rcases hv with rfl | rfl | rfl | rfl | rfl <;> rfl) | (rcases hv with rfl | rfl | rfl | rfl <;> rfl) | (rcases hv with rfl | rfl | rfl <;> rfl) | (rcases hv with rfl | rfl <;> rfl) | (subst hv; rfl))
      intro WF hb hbx hoth
      have HF := Lib.hid (And.intro (HK3.out.box HBb.out.2.2.2 hb hoth) (HH3.out.box hb hoth HBb.out.1.symm HBb.out.2.1 HBb.out.2.2.1))
      clear hb
      obtain ⟨q0, q1, q2, qf, ql⟩ := cells3p (show WF.heap[B]? = some (.cells #[.int .i64 7, .string a3, .slice none 0 0] 51) from hbx)
      go_wp2
      exact bodyPost_ret (v := .agg #[.int .i64 7, .string a3, .slice none 0 0]) (by simp [results, Tryz.results313, go_sem, q0, q1, q2]) rfl (RPost.done HF.out.1 (HQ.out.symm.trans (map_ok HR.out)) HJ3.out HF.out.2 ⟨.mk 7 a3 h0 [], rfl, by rw [erTy, erTys], ⟨by unfold I64; omega, Row.nil _ _ _ _⟩⟩)
    · have HS := Lib.hid hts
      clear hts
      obtain ⟨x0, xf, xl⟩ := cells1p HA0_1.out
      obtain ⟨y0, yf, yl⟩ := cells1p HA1_1.out
      go_upto_region 8 with (go_at_call 172; refine HTK.out.mono ?_; rintro e W2 ⟨-, h1⟩; obtain ⟨rfl, hb⟩ := h1 HS.out; have hk := Kb.of_below (b := b) hb; have HK2 := Lib.hid (HK1.out.trans hk); have HH2 := Lib.hid (HH1.out.under hb); have HJ2 := Lib.hid HJ1.out; have HX2 := Lib.hid (hk.kept HX1.out HBb.out.1); have HA0_2 := Lib.hid (hk.kept HA0_1.out HN0.out.1); have HA1_2 := Lib.hid (hk.kept HA1_1.out HN1.out.1); clear h1 hk hb HTK)
      have hQ := HQ.out
      rw [opt_no HH1.out HT2.out HS.out] at hQ
      replace HQ := Lib.hid hQ
      clear hQ HS
      clear x0 xf xl y0 yf yl
      obtain ⟨t3, ht3, hh, -⟩ := HH2.out.tok
      have htk := takes_any HH2.out ht3 wBox (by decide)
      have HTK := Lib.hid htk
      have HT3 := Lib.hid ht3
      clear htk hh ht3
      by_cases hts : t3.text = wBox
      · have HS := Lib.hid hts
        clear hts
        obtain ⟨x0, xf, xl⟩ := cells1p HA0_2.out
        obtain ⟨y0, yf, yl⟩ := cells1p HA1_2.out
        go_upto_region 9 with (go_at_call 172; refine HTK.out.mono ?_; rintro e W3 ⟨h1, -⟩; obtain ⟨rfl, hk, hrd⟩ := h1 HS.out; have HK3 := Lib.hid (HK2.out.trans hk); have HH3 := Lib.hid hrd; have HJ3 := Lib.hid (Nat.le_succ_of_le HJ2.out); have HX3 := Lib.hid (hk.kept HX2.out HBb.out.1); have HA0_3 := Lib.hid (hk.kept HA0_2.out HN0.out.1); have HA1_3 := Lib.hid (hk.kept HA1_2.out HN1.out.1); clear h1 hk hrd HTK)
        have hQ := HQ.out
        rw [opt_yes HH2.out HT3.out HS.out] at hQ
        replace HQ := Lib.hid hQ
        clear hQ HS
        clear x0 xf xl y0 yf yl
        have hcc := r_of HH3.out hT d HD.out 4 (by unfold I64; omega) HA0_3.out HA1_3.out HN0.out.1 HN1.out.1
        have hc := hcc
        have HC := Lib.hid hc
        clear hc
        rcases hr : (fun l => mapR (tyR n) (fun t => Ty5.mk 4 nil5 h0 [t]) l) (ts.drop (i + 1)) with ⟨a4, l4⟩ | ⟨er, p⟩
        rotate_left
        · have HR := Lib.hid hr
          clear hr
          obtain ⟨x0, xf, xl⟩ := cells1p HA0_3.out
          obtain ⟨y0, yf, yl⟩ := cells1p HA1_3.out
          go_wp2_with (go_at_call 326; refine HC.out.mono ?_; rintro e W4 hp; obtain ⟨he, hk⟩ := hp.no HR.out; unfold faultE at he; subst he; have HK4 := Lib.hid (HK3.out.trans hk); clear hk hp HC)
          exact ⟨rfl, RPost.fault HK4.out (HQ.out.symm.trans HR.out)⟩
        have HR := Lib.hid hr
        clear hr
        obtain ⟨x0, xf, xl⟩ := cells1p HA0_3.out
        obtain ⟨y0, yf, yl⟩ := cells1p HA1_3.out
        go_wp2_with
          (first
            | (go_at_call 326; refine HC.out.mono ?_; rintro e W4 hp; obtain ⟨hk, j4, v4, rfl, hl, hj, hrd, hv⟩ := hp.ok HR.out; subst hl; obtain ⟨x1, rfl, rfl, hp⟩ := hv; obtain ⟨kk, nm, hh1, ll⟩ := x1; simp only [tyV, tyC]; have HP := Lib.hid hp; clear hp; have HK4 := Lib.hid (HK3.out.trans hk); have HKK4 := Lib.hid hk; have HH4 := Lib.hid hrd; have HJ4 := Lib.hid (Nat.le_trans HJ3.out hj); have HX4 := Lib.hid (hk.kept HX3.out HBb.out.1); have HA0_4 := Lib.hid (hk.kept HA0_3.out HN0.out.1); have HA1_4 := Lib.hid (hk.kept HA1_3.out HN1.out.1); clear hk hp hrd hj HC)
            | (refine wpList_store_box rfl 51 (.tmp 4) (.tmp 25) rfl B 0 rfl (.agg #[.int .i64 kk, .string nm, .slice hh1.oa ll.length hh1.cap]) rfl [.int .i64 kk, .string nm, .slice hh1.oa ll.length hh1.cap] rfl [.int .i64 0, .string ⟨#[]⟩, .slice none 0 0] 51 HX4.out (Nat.le_refl _) (show (Tryz.prog.info? 51).map (·.size) = some 3 by kernel_rfl) ?c1 B (Nat.le_refl _) W4 (Below.refl _ _) ?_))
        case c1 => first | exact rfl | exact ⟨rfl, rfl⟩ | exact ⟨rfl, rfl, rfl⟩ | exact ⟨rfl, rfl, rfl, rfl⟩ | exact ⟨rfl, rfl, rfl, rfl, rfl⟩ | exact ⟨rfl, rfl, rfl, rfl, rfl, rfl⟩ | (intro v hv; simp at hv; first | (rcases hv with rfl | rfl | rfl | rfl | rfl | rfl <;> rfl) | (rcases hv with rfl | rfl | rfl | rfl | rfl <;> rfl) | (rcases hv with rfl | rfl | rfl | rfl <;> rfl) | (rcases hv with rfl | rfl | rfl <;> rfl) | (rcases hv with rfl | rfl <;> rfl) | (subst hv; rfl))
        intro WF hb hbx hoth
        have HF := Lib.hid (And.intro (HK4.out.box HBb.out.2.2.2 hb hoth) (HH4.out.box hb hoth HBb.out.1.symm HBb.out.2.1 HBb.out.2.2.1))
        have HU := Lib.hid (TyH.und _ _ _ _ (und_box hb hoth (blk_lt HX3.out) HK3.out.size) HP.out)
        clear hb
        obtain ⟨q0, q1, q2, qf, ql⟩ := cells3p (show WF.heap[B]? = some (.cells #[.int .i64 kk, .string nm, .slice hh1.oa ll.length hh1.cap] 51) from hbx)
        go_wp2
        exact bodyPost_ret (v := .agg #[.int .i64 kk, .string nm, .slice hh1.oa ll.length hh1.cap]) (by simp [results, Tryz.results313, go_sem, q0, q1, q2]) rfl (RPost.done HF.out.1 (HQ.out.symm.trans HR.out) HJ4.out HF.out.2 ⟨.mk kk nm hh1 ll, rfl, rfl, HU.out⟩)
      · have HS := Lib.hid hts
        clear hts
        obtain ⟨x0, xf, xl⟩ := cells1p HA0_2.out
        obtain ⟨y0, yf, yl⟩ := cells1p HA1_2.out
        go_upto_region 10 with (go_at_call 172; refine HTK.out.mono ?_; rintro e W3 ⟨-, h1⟩; obtain ⟨rfl, hb⟩ := h1 HS.out; have hk := Kb.of_below (b := b) hb; have HK3 := Lib.hid (HK2.out.trans hk); have HH3 := Lib.hid (HH2.out.under hb); have HJ3 := Lib.hid HJ2.out; have HX3 := Lib.hid (hk.kept HX2.out HBb.out.1); have HA0_3 := Lib.hid (hk.kept HA0_2.out HN0.out.1); have HA1_3 := Lib.hid (hk.kept HA1_2.out HN1.out.1); clear h1 hk hb HTK)
        have hQ := HQ.out
        rw [opt_no HH2.out HT3.out HS.out] at hQ
        replace HQ := Lib.hid hQ
        clear hQ HS
        clear x0 xf xl y0 yf yl
        obtain ⟨t4, ht4, hh, -⟩ := HH3.out.tok
        have htk := takes_any HH3.out ht4 wAmp (by decide)
        have HTK := Lib.hid htk
        have HT4 := Lib.hid ht4
        clear htk hh ht4
        by_cases hts : t4.text = wAmp
        · have HS := Lib.hid hts
          clear hts
          obtain ⟨x0, xf, xl⟩ := cells1p HA0_3.out
          obtain ⟨y0, yf, yl⟩ := cells1p HA1_3.out
          go_upto_region 11 with (go_at_call 172; refine HTK.out.mono ?_; rintro e W4 ⟨h1, -⟩; obtain ⟨rfl, hk, hrd⟩ := h1 HS.out; have HK4 := Lib.hid (HK3.out.trans hk); have HH4 := Lib.hid hrd; have HJ4 := Lib.hid (Nat.le_succ_of_le HJ3.out); have HX4 := Lib.hid (hk.kept HX3.out HBb.out.1); have HA0_4 := Lib.hid (hk.kept HA0_3.out HN0.out.1); have HA1_4 := Lib.hid (hk.kept HA1_3.out HN1.out.1); clear h1 hk hrd HTK)
          have hQ := HQ.out
          rw [opt_yes HH3.out HT4.out HS.out] at hQ
          replace HQ := Lib.hid hQ
          clear hQ HS
          clear x0 xf xl y0 yf yl
          obtain ⟨t5, ht5, hh, -⟩ := HH4.out.tok
          have htk := takes_any HH4.out ht5 wMut (by decide)
          have HTK := Lib.hid htk
          have HT5 := Lib.hid ht5
          clear htk hh ht5
          by_cases hts : t5.text = wMut
          · have HS := Lib.hid hts
            clear hts
            obtain ⟨x0, xf, xl⟩ := cells1p HA0_4.out
            obtain ⟨y0, yf, yl⟩ := cells1p HA1_4.out
            go_upto_region 12 with (go_at_call 172; refine HTK.out.mono ?_; rintro e W5 ⟨h1, -⟩; obtain ⟨rfl, hk, hrd⟩ := h1 HS.out; have HK5 := Lib.hid (HK4.out.trans hk); have HH5 := Lib.hid hrd; have HJ5 := Lib.hid (Nat.le_succ_of_le HJ4.out); have HX5 := Lib.hid (hk.kept HX4.out HBb.out.1); have HA0_5 := Lib.hid (hk.kept HA0_4.out HN0.out.1); have HA1_5 := Lib.hid (hk.kept HA1_4.out HN1.out.1); clear h1 hk hrd HTK)
            have hQ := HQ.out
            rw [opt_yes HH4.out HT5.out HS.out] at hQ
            replace HQ := Lib.hid hQ
            clear hQ HS
            clear x0 xf xl y0 yf yl
            have hcc := r_of HH5.out hT d HD.out 6 (by unfold I64; omega) HA0_5.out HA1_5.out HN0.out.1 HN1.out.1
            have hc := hcc
            have HC := Lib.hid hc
            clear hc
            rcases hr : (fun l => mapR (tyR n) (fun t => Ty5.mk 6 nil5 h0 [t]) l) (ts.drop ((i + 1) + 1)) with ⟨a6, l6⟩ | ⟨er, p⟩
            rotate_left
            · have HR := Lib.hid hr
              clear hr
              obtain ⟨x0, xf, xl⟩ := cells1p HA0_5.out
              obtain ⟨y0, yf, yl⟩ := cells1p HA1_5.out
              go_wp2_with (go_at_call 326; refine HC.out.mono ?_; rintro e W6 hp; obtain ⟨he, hk⟩ := hp.no HR.out; unfold faultE at he; subst he; have HK6 := Lib.hid (HK5.out.trans hk); clear hk hp HC)
              exact ⟨rfl, RPost.fault HK6.out (HQ.out.symm.trans HR.out)⟩
            have HR := Lib.hid hr
            clear hr
            obtain ⟨x0, xf, xl⟩ := cells1p HA0_5.out
            obtain ⟨y0, yf, yl⟩ := cells1p HA1_5.out
            go_wp2_with
              (first
                | (go_at_call 326; refine HC.out.mono ?_; rintro e W6 hp; obtain ⟨hk, j6, v6, rfl, hl, hj, hrd, hv⟩ := hp.ok HR.out; subst hl; obtain ⟨x1, rfl, rfl, hp⟩ := hv; obtain ⟨kk, nm, hh1, ll⟩ := x1; simp only [tyV, tyC]; have HP := Lib.hid hp; clear hp; have HK6 := Lib.hid (HK5.out.trans hk); have HKK6 := Lib.hid hk; have HH6 := Lib.hid hrd; have HJ6 := Lib.hid (Nat.le_trans HJ5.out hj); have HX6 := Lib.hid (hk.kept HX5.out HBb.out.1); have HA0_6 := Lib.hid (hk.kept HA0_5.out HN0.out.1); have HA1_6 := Lib.hid (hk.kept HA1_5.out HN1.out.1); clear hk hp hrd hj HC)
                | (refine wpList_store_box rfl 51 (.tmp 4) (.tmp 32) rfl B 0 rfl (.agg #[.int .i64 kk, .string nm, .slice hh1.oa ll.length hh1.cap]) rfl [.int .i64 kk, .string nm, .slice hh1.oa ll.length hh1.cap] rfl [.int .i64 0, .string ⟨#[]⟩, .slice none 0 0] 51 HX6.out (Nat.le_refl _) (show (Tryz.prog.info? 51).map (·.size) = some 3 by kernel_rfl) ?c1 B (Nat.le_refl _) W6 (Below.refl _ _) ?_))
            case c1 => first | exact rfl | exact ⟨rfl, rfl⟩ | exact ⟨rfl, rfl, rfl⟩ | exact ⟨rfl, rfl, rfl, rfl⟩ | exact ⟨rfl, rfl, rfl, rfl, rfl⟩ | exact ⟨rfl, rfl, rfl, rfl, rfl, rfl⟩ | (intro v hv; simp at hv; first | (rcases hv with rfl | rfl | rfl | rfl | rfl | rfl <;> rfl) | (rcases hv with rfl | rfl | rfl | rfl | rfl <;> rfl) | (rcases hv with rfl | rfl | rfl | rfl <;> rfl) | (rcases hv with rfl | rfl | rfl <;> rfl) | (rcases hv with rfl | rfl <;> rfl) | (subst hv; rfl))
            intro WF hb hbx hoth
            have HF := Lib.hid (And.intro (HK6.out.box HBb.out.2.2.2 hb hoth) (HH6.out.box hb hoth HBb.out.1.symm HBb.out.2.1 HBb.out.2.2.1))
            have HU := Lib.hid (TyH.und _ _ _ _ (und_box hb hoth (blk_lt HX5.out) HK5.out.size) HP.out)
            clear hb
            obtain ⟨q0, q1, q2, qf, ql⟩ := cells3p (show WF.heap[B]? = some (.cells #[.int .i64 kk, .string nm, .slice hh1.oa ll.length hh1.cap] 51) from hbx)
            go_wp2
            exact bodyPost_ret (v := .agg #[.int .i64 kk, .string nm, .slice hh1.oa ll.length hh1.cap]) (by simp [results, Tryz.results313, go_sem, q0, q1, q2]) rfl (RPost.done HF.out.1 (HQ.out.symm.trans HR.out) HJ6.out HF.out.2 ⟨.mk kk nm hh1 ll, rfl, rfl, HU.out⟩)
          · have HS := Lib.hid hts
            clear hts
            obtain ⟨x0, xf, xl⟩ := cells1p HA0_4.out
            obtain ⟨y0, yf, yl⟩ := cells1p HA1_4.out
            go_upto_region 13 with (go_at_call 172; refine HTK.out.mono ?_; rintro e W5 ⟨-, h1⟩; obtain ⟨rfl, hb⟩ := h1 HS.out; have hk := Kb.of_below (b := b) hb; have HK5 := Lib.hid (HK4.out.trans hk); have HH5 := Lib.hid (HH4.out.under hb); have HJ5 := Lib.hid HJ4.out; have HX5 := Lib.hid (hk.kept HX4.out HBb.out.1); have HA0_5 := Lib.hid (hk.kept HA0_4.out HN0.out.1); have HA1_5 := Lib.hid (hk.kept HA1_4.out HN1.out.1); clear h1 hk hb HTK)
            have hQ := HQ.out
            rw [opt_no HH4.out HT5.out HS.out] at hQ
            replace HQ := Lib.hid hQ
            clear hQ HS
            clear x0 xf xl y0 yf yl
            have hcc := r_of HH5.out hT d HD.out 5 (by unfold I64; omega) HA0_5.out HA1_5.out HN0.out.1 HN1.out.1
            have hc := hcc
            have HC := Lib.hid hc
            clear hc
            rcases hr : (fun l => mapR (tyR n) (fun t => Ty5.mk 5 nil5 h0 [t]) l) (ts.drop (i + 1)) with ⟨a6, l6⟩ | ⟨er, p⟩
            rotate_left
            · have HR := Lib.hid hr
              clear hr
              obtain ⟨x0, xf, xl⟩ := cells1p HA0_5.out
              obtain ⟨y0, yf, yl⟩ := cells1p HA1_5.out
              go_wp2_with (go_at_call 326; refine HC.out.mono ?_; rintro e W6 hp; obtain ⟨he, hk⟩ := hp.no HR.out; unfold faultE at he; subst he; have HK6 := Lib.hid (HK5.out.trans hk); clear hk hp HC)
              exact ⟨rfl, RPost.fault HK6.out (HQ.out.symm.trans HR.out)⟩
            have HR := Lib.hid hr
            clear hr
            obtain ⟨x0, xf, xl⟩ := cells1p HA0_5.out
            obtain ⟨y0, yf, yl⟩ := cells1p HA1_5.out
            go_wp2_with
              (first
                | (go_at_call 326; refine HC.out.mono ?_; rintro e W6 hp; obtain ⟨hk, j6, v6, rfl, hl, hj, hrd, hv⟩ := hp.ok HR.out; subst hl; obtain ⟨x1, rfl, rfl, hp⟩ := hv; obtain ⟨kk, nm, hh1, ll⟩ := x1; simp only [tyV, tyC]; have HP := Lib.hid hp; clear hp; have HK6 := Lib.hid (HK5.out.trans hk); have HKK6 := Lib.hid hk; have HH6 := Lib.hid hrd; have HJ6 := Lib.hid (Nat.le_trans HJ5.out hj); have HX6 := Lib.hid (hk.kept HX5.out HBb.out.1); have HA0_6 := Lib.hid (hk.kept HA0_5.out HN0.out.1); have HA1_6 := Lib.hid (hk.kept HA1_5.out HN1.out.1); clear hk hp hrd hj HC)
                | (refine wpList_store_box rfl 51 (.tmp 4) (.tmp 34) rfl B 0 rfl (.agg #[.int .i64 kk, .string nm, .slice hh1.oa ll.length hh1.cap]) rfl [.int .i64 kk, .string nm, .slice hh1.oa ll.length hh1.cap] rfl [.int .i64 0, .string ⟨#[]⟩, .slice none 0 0] 51 HX6.out (Nat.le_refl _) (show (Tryz.prog.info? 51).map (·.size) = some 3 by kernel_rfl) ?c1 B (Nat.le_refl _) W6 (Below.refl _ _) ?_))
            case c1 => first | exact rfl | exact ⟨rfl, rfl⟩ | exact ⟨rfl, rfl, rfl⟩ | exact ⟨rfl, rfl, rfl, rfl⟩ | exact ⟨rfl, rfl, rfl, rfl, rfl⟩ | exact ⟨rfl, rfl, rfl, rfl, rfl, rfl⟩ | (intro v hv; simp at hv; first | (rcases hv with rfl | rfl | rfl | rfl | rfl | rfl <;> rfl) | (rcases hv with rfl | rfl | rfl | rfl | rfl <;> rfl) | (rcases hv with rfl | rfl | rfl | rfl <;> rfl) | (rcases hv with rfl | rfl | rfl <;> rfl) | (rcases hv with rfl | rfl <;> rfl) | (subst hv; rfl))
            intro WF hb hbx hoth
            have HF := Lib.hid (And.intro (HK6.out.box HBb.out.2.2.2 hb hoth) (HH6.out.box hb hoth HBb.out.1.symm HBb.out.2.1 HBb.out.2.2.1))
            have HU := Lib.hid (TyH.und _ _ _ _ (und_box hb hoth (blk_lt HX5.out) HK5.out.size) HP.out)
            clear hb
            obtain ⟨q0, q1, q2, qf, ql⟩ := cells3p (show WF.heap[B]? = some (.cells #[.int .i64 kk, .string nm, .slice hh1.oa ll.length hh1.cap] 51) from hbx)
            go_wp2
            exact bodyPost_ret (v := .agg #[.int .i64 kk, .string nm, .slice hh1.oa ll.length hh1.cap]) (by simp [results, Tryz.results313, go_sem, q0, q1, q2]) rfl (RPost.done HF.out.1 (HQ.out.symm.trans HR.out) HJ6.out HF.out.2 ⟨.mk kk nm hh1 ll, rfl, rfl, HU.out⟩)
        · have HS := Lib.hid hts
          clear hts
          obtain ⟨x0, xf, xl⟩ := cells1p HA0_3.out
          obtain ⟨y0, yf, yl⟩ := cells1p HA1_3.out
          go_upto_region 14 with (go_at_call 172; refine HTK.out.mono ?_; rintro e W4 ⟨-, h1⟩; obtain ⟨rfl, hb⟩ := h1 HS.out; have hk := Kb.of_below (b := b) hb; have HK4 := Lib.hid (HK3.out.trans hk); have HH4 := Lib.hid (HH3.out.under hb); have HJ4 := Lib.hid HJ3.out; have HX4 := Lib.hid (hk.kept HX3.out HBb.out.1); have HA0_4 := Lib.hid (hk.kept HA0_3.out HN0.out.1); have HA1_4 := Lib.hid (hk.kept HA1_3.out HN1.out.1); clear h1 hk hb HTK)
          have hQ := HQ.out
          rw [opt_no HH3.out HT4.out HS.out] at hQ
          replace HQ := Lib.hid hQ
          clear hQ HS
          clear x0 xf xl y0 yf yl
          have hc := r_great HH4.out
          have HC := Lib.hid hc
          clear hc
          rcases hr : greatR (ts.drop i) with ⟨a5, l5⟩ | ⟨er, p⟩
          rotate_left
          · have HR := Lib.hid hr
            clear hr
            obtain ⟨x0, xf, xl⟩ := cells1p HA0_4.out
            obtain ⟨y0, yf, yl⟩ := cells1p HA1_4.out
            go_wp2_with (go_at_call 236; refine HC.out.mono ?_; rintro e W5 hp; obtain ⟨he, hk⟩ := hp.no HR.out; unfold faultE at he; subst he; have HK5 := Lib.hid (HK4.out.trans hk); clear hk hp HC)
            exact ⟨rfl, RPost.fault HK5.out (HQ.out.symm.trans (bind_no HR.out))⟩
          have HR := Lib.hid hr
          clear hr
          obtain ⟨x0, xf, xl⟩ := cells1p HA0_4.out
          obtain ⟨y0, yf, yl⟩ := cells1p HA1_4.out
          go_wp2_with
            (first
              | (go_at_call 236; refine HC.out.mono ?_; rintro e W5 hp; obtain ⟨hk, j5, v5, rfl, hl, hj, hrd, hv⟩ := hp.ok HR.out; subst hl; unfold VStr at hv; subst hv; have HK5 := Lib.hid (HK4.out.trans hk); have HKK5 := Lib.hid hk; have HH5 := Lib.hid hrd; have HJ5 := Lib.hid (Nat.le_trans HJ4.out hj); have HX5 := Lib.hid (hk.kept HX4.out HBb.out.1); have HA0_5 := Lib.hid (hk.kept HA0_4.out HN0.out.1); have HA1_5 := Lib.hid (hk.kept HA1_4.out HN1.out.1); clear hk hp hrd hj HC)
              | (refine wpList_store_box rfl 51 (.tmp 4) (.tmp 37) rfl B 0 rfl (.agg #[.int .i64 2, .string a5, .slice none 0 0]) rfl [.int .i64 2, .string a5, .slice none 0 0] rfl [.int .i64 0, .string ⟨#[]⟩, .slice none 0 0] 51 HX5.out (Nat.le_refl _) (show (Tryz.prog.info? 51).map (·.size) = some 3 by kernel_rfl) ?c1 B (Nat.le_refl _) W5 (Below.refl _ _) ?_))
          case c1 => first | exact rfl | exact ⟨rfl, rfl⟩ | exact ⟨rfl, rfl, rfl⟩ | exact ⟨rfl, rfl, rfl, rfl⟩ | exact ⟨rfl, rfl, rfl, rfl, rfl⟩ | exact ⟨rfl, rfl, rfl, rfl, rfl, rfl⟩ | (intro v hv; simp at hv; first | (rcases hv with rfl | rfl | rfl | rfl | rfl | rfl <;> rfl) | (rcases hv with rfl | rfl | rfl | rfl | rfl <;> rfl) | (rcases hv with rfl | rfl | rfl | rfl <;> rfl) | (rcases hv with rfl | rfl | rfl <;> rfl) | (rcases hv with rfl | rfl <;> rfl) | (subst hv; rfl))
          intro WF hb hbx hoth
          have HF := Lib.hid (And.intro (HK5.out.box HBb.out.2.2.2 hb hoth) (HH5.out.box hb hoth HBb.out.1.symm HBb.out.2.1 HBb.out.2.2.1))
          clear hb
          obtain ⟨q0, q1, q2, qf, ql⟩ := cells3p (show WF.heap[B]? = some (.cells #[.int .i64 2, .string a5, .slice none 0 0] 51) from hbx)
          go_wp2
          exact bodyPost_ret (v := .agg #[.int .i64 2, .string a5, .slice none 0 0]) (by simp [results, Tryz.results313, go_sem, q0, q1, q2]) rfl (RPost.done HF.out.1 (HQ.out.symm.trans (map_ok HR.out)) HJ5.out HF.out.2 ⟨.mk 2 a5 h0 [], rfl, by rw [erTy, erTys], ⟨by unfold I64; omega, Row.nil _ _ _ _⟩⟩)
theorem tyC_all : ∀ n, TyC n
  | 0 => fun d hd {_ _ _ _ _ _ _} H => ty_zero H d (by omega)
  | n + 1 => fun d hd {_ _ _ _ _ _ _} H => ty_succ H (tyC_all n) d (by omega)
end Go.Proofs.YtggdpgaedmegbaaGreatDoor
