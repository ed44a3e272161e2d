/-
  What must stand here is passed, or a fault is told. Conditions: the reader lies in the heap.
-/
import Derived.Test.YtggdpgaedmegbaaGreatDoorJPTok
namespace Go.Proofs.YtggdpgaedmegbaaGreatDoor
open Go.RowKit

set_option maxRecDepth 100000 in
set_option maxHeartbeats 4000000 in
theorem need_any {w : World} {b g cap : Nat} {ts : List Tok} {i dp : Nat} (H : RdAt w b g cap ts i dp) (s : List UInt8) (hs : s ≠ []) :
    Calls Tryz.prog 237 #[.pointer (some ⟨b, 0, none⟩), .string (strB s)] w (RPost w b g cap ts i dp (needR s (ts.drop i)) VUnit) := by
  obtain ⟨t, ht, hh, -⟩ := H.tok
  have hR : needR s (ts.drop i) = if t.text = s then .ok () (ts.drop (i + 1)) else .no 60 t.pos := by
    unfold needR optR failR pureR
    rw [hh, drop_tail]
  rw [hR]
  have HT := Lib.hid (takes_any H ht s hs)
  have HH := Lib.hid H
  have HX := Lib.hid ht
  by_cases hts : t.text = s
  · rw [if_pos hts]
    have HS := Lib.hid hts
    clear hR hh ht H hts
    go_enter Tryz.func237, Tryz.ntmps237
    go_wp2_with (go_at_call 172; refine HT.out.mono ?_; rintro e w1 ⟨h1, -⟩; obtain ⟨rfl, hk, hr⟩ := h1 HS.out; have HK := Lib.hid (And.intro hk hr); clear h1 hk hr HT)
    refine bodyPost_ret (results_none rfl _ _ _) rfl ?_
    exact RPost.done HK.out.1 rfl (Nat.le_succ _) HK.out.2 rfl
  · rw [if_neg hts]
    have HS := Lib.hid hts
    clear hR hh ht H hts
    go_enter Tryz.func237, Tryz.ntmps237
    go_upto_region 1 with (go_at_call 172; refine HT.out.mono ?_; rintro e w1 ⟨-, h1⟩; obtain ⟨rfl, hb⟩ := h1 HS.out; have HB := Lib.hid hb; have HF := Lib.hid (fail_any (HH.out.under hb) HX.out 60); clear h1 hb HT)
    go_wp2_with (go_at_call 284; refine HF.out.mono ?_; rintro e w2 ⟨he, hb2⟩; unfold faultE at he; subst he; have HB2 := Lib.hid hb2; clear hb2 HF)
    exact ⟨rfl, RPost.fault ((Kb.of_below HB.out).trans (Kb.of_below HB2.out)) rfl⟩

def VTok (_ : World) (_ : Nat) (v : Value) (t : Tok) : Prop := v = tokV t
set_option maxRecDepth 100000 in
set_option maxHeartbeats 4000000 in
theorem one_any {w : World} {b g cap : Nat} {ts : List Tok} {i dp : Nat} (H : RdAt w b g cap ts i dp) (F : Nat) (f : Tok → Bool) (hE : ∀ (args : Array Value) (w : World), (callFunc F args).run Tryz.prog w = .ok (.enter F args) w)
    (hF : ∀ (t : Tok) (w : World), Vars w → Calls Tryz.prog F #[tokV t] w fun e w' => e = .returned (.bool (f t)) ∧ Below w.heap.size w w') (hk : ∀ t, f t = true → t.k ≠ 0) :
    Calls Tryz.prog 282 #[.pointer (some ⟨b, 0, none⟩), .func (.func F) #[] #[]] w (RPost w b g cap ts i dp (oneR f (ts.drop i)) VTok) := by
  obtain ⟨t, ht, hh, -⟩ := H.tok
  have hR : oneR f (ts.drop i) = if f t then .ok t (ts.drop (i + 1)) else .no 60 t.pos := by
    unfold oneR
    rw [hh, drop_tail]
  rw [hR]
  have HR := Lib.hid hR
  obtain ⟨W, hW⟩ : ∃ W, W = w.alloc (.cells #[.int .i64 0, .string ⟨#[]⟩, .int .i64 0, .int .i64 0] 40) := ⟨_, rfl⟩
  have hbW : Below w.heap.size w W := by rw [hW]; exact alloc_below _ _
  have hx0 : W.heap[w.heap.size]? = some (.cells #[.int .i64 0, .string ⟨#[]⟩, .int .i64 0, .int .i64 0] 40) := by rw [hW, heap_alloc_new]
  have hnx := next_any (H.under hbW) ht
  simp only [tokV] at hnx
  have HN := Lib.hid hnx
  have HF := Lib.hid (hF t)
  have HFF := Lib.hid hF
  have HH := Lib.hid (H.under hbW)
  have HW := Lib.hid hbW
  have HX := Lib.hid hx0
  have HT := Lib.hid ht
  have HKK := Lib.hid (hk t)
  have HBN := Lib.hid (show w.heap.size ≠ b from fun e => by
    have h1 := (Array.getElem?_eq_some_iff.1 H.at_).1
    omega)
  have HGB := Lib.hid (And.intro H.toks.1 H.vars.size)
  obtain ⟨B, hB⟩ : ∃ B, B = w.heap.size := ⟨_, rfl⟩
  rw [← hB] at hx0 HX
  clear hnx ht hF hR hh hk H hbW hx0
  go_enter Tryz.func282, Tryz.ntmps282
  go_upto_region 1 with fail
  rw [← hW]
  simp only [← hB]
  clear hW
  replace hB := Lib.hid hB
  go_upto_region 2 with (go_at_call 171; refine HN.out.mono ?_; rintro e w1 ⟨rfl, hb1⟩; have HB1 := Lib.hid hb1; clear hb1 HN)
  have hb2 : Below w1.heap.size w1 (w1.alloc (.cells #[.int .i64 t.k, .string (strB t.text), .int .i64 t.n, .int .i64 t.pos] 40)) := alloc_below _ _
  have hx2 : (w1.alloc (.cells #[.int .i64 t.k, .string (strB t.text), .int .i64 t.n, .int .i64 t.pos] 40)).heap[w1.heap.size]? = some (.cells #[.int .i64 t.k, .string (strB t.text), .int .i64 t.n, .int .i64 t.pos] 40) := heap_alloc_new _ _
  have H2 := Lib.hid ((HH.out.under HB1.out).under hb2)
  have HX2 := Lib.hid (keepB (keepB HX.out HB1.out) hb2)
  have HB2 := Lib.hid (HB1.out.trans (hb2.mono HB1.out.size))
  have HBL := Lib.hid (show B < w1.heap.size from Nat.lt_of_lt_of_le (Array.getElem?_eq_some_iff.1 HX.out).1 HB1.out.size)
  clear hb2
  generalize w1.alloc (.cells #[.int .i64 t.k, .string (strB t.text), .int .i64 t.n, .int .i64 t.pos] 40) = W2 at hx2 H2 HX2 HB2 ⊢
  generalize w1.heap.size = k2 at hx2 HBL ⊢
  have HY2 := Lib.hid hx2
  obtain ⟨y0, y1, y2, y3, yf, yl⟩ := cells4 hx2
  clear hx2
  have hcall := HF.out W2 H2.out.vars
  simp only [tokV] at hcall
  have HC := Lib.hid hcall
  clear hcall HF
  by_cases hft : f t = true
  · rw [if_pos hft]
    have HFT := Lib.hid hft
    clear hft
    go_upto_region 4 with (go_at_fn F; refine HC.out.mono ?_; rintro e w3 ⟨he, hb3⟩; rw [HFT.out] at he; subst he; have HB3 := Lib.hid hb3; clear hb3 HC)
    have H3 := Lib.hid (H2.out.under HB3.out)
    have HX3 := Lib.hid (keepB HX2.out HB3.out)
    have HY3 := Lib.hid (keepB HY2.out HB3.out)
    clear y0 y1 y2 y3 yf yl
    obtain ⟨r0, r1, r2, rf, rl⟩ := cells3p H3.out.at_
    have hi := HH.out.next HT.out (.inr (HKK.out HFT.out))
    have hw : wrap64 ((i : Int) + 1) = (i : Int) + 1 := by have := HH.out.ok.small; unfold wrap64; omega
    have HP := Lib.hid (H3.out.pass hi)
    have HBB := Lib.hid (HW.out.trans ((HB2.out.trans (HB3.out.mono HB2.out.size)).mono HW.out.size))
    clear hi
    go_upto_region 5 with fail
    have HX4 := Lib.hid (show (w3.setCell ⟨b, 1, none⟩ (.int .i64 ((i : Int) + 1))).heap[B]? = some (.cells #[.int .i64 0, .string ⟨#[]⟩, .int .i64 0, .int .i64 0] 40) from (Below.heap_setCell _ _ _ _ (show B ≠ b from hB.out ▸ HBN.out)).trans HX3.out)
    have HY4 := Lib.hid (show (w3.setCell ⟨b, 1, none⟩ (.int .i64 ((i : Int) + 1))).heap[k2]? = some (.cells #[.int .i64 t.k, .string (strB t.text), .int .i64 t.n, .int .i64 t.pos] 40) from (Below.heap_setCell _ _ _ _ (show k2 ≠ b from fun e => by
      have h1 := H2.out.at_
      have h2 := HY2.out
      rw [e, h1] at h2
      simp at h2)).trans HY3.out)
    have HK4 := Lib.hid ((Kb.of_below HBB.out).trans (Kb.set (b := b) w3 1 (.int .i64 ((i : Int) + 1))))
    clear r0 r1 r2 rf rl hw
    generalize w3.setCell ⟨b, 1, none⟩ (.int .i64 ((i : Int) + 1)) = W4 at HP HX4 HY4 HK4 ⊢
    obtain ⟨x0, x1, x2, x3, xf, xl⟩ := cells4 HX4.out
    obtain ⟨y0, y1, y2, y3, yf, yl⟩ := cells4 HY4.out
    have hf := set4 (u0 := .int .i64 t.k) (u1 := .string (strB t.text)) (u2 := .int .i64 t.n) (u3 := .int .i64 t.pos) HX4.out
    have hge : w.heap.size ≤ B := Nat.le_of_eq hB.out.symm
    have hkb := (((HK4.out.setNew hge 0 (.int .i64 t.k)).setNew hge 1 (.string (strB t.text))).setNew hge 2 (.int .i64 t.n)).setNew hge 3 (.int .i64 t.pos)
    have hrd : RdAt ((((W4.setCell ⟨B, 0, none⟩ (.int .i64 t.k)).setCell ⟨B, 1, none⟩ (.string (strB t.text))).setCell ⟨B, 2, none⟩ (.int .i64 t.n)).setCell ⟨B, 3, none⟩ (.int .i64 t.pos)) b g cap ts (i + 1) dp := by
      have hn : b ≠ B := fun e => HBN.out (hB.out ▸ e.symm)
      have hg : g ≠ B := by have := HGB.out.1; have := hB.out; omega
      have h9 : nG ≤ B := by have := HGB.out.2; have := hB.out; omega
      exact (((HP.out.setNew hn 0 _ HX4.out hg h9).setNew hn 1 _ (heap_setCell_same _ _ _ _ _ _ HX4.out) hg h9).setNew hn 2 _ (heap_setCell_same _ _ _ _ _ _ (heap_setCell_same _ _ _ _ _ _ HX4.out)) hg h9).setNew hn 3 _ (heap_setCell_same _ _ _ _ _ _ (heap_setCell_same _ _ _ _ _ _ (heap_setCell_same _ _ _ _ _ _ HX4.out))) hg h9
    have HZ := Lib.hid (And.intro hkb hrd)
    clear hge hkb hrd
    go_wp2
    have HZ2 := HZ.out
    generalize (World.setCell (World.setCell (World.setCell (World.setCell W4 _ _) _ _) _ _) _ _) = WF at hf HZ2 ⊢
    obtain ⟨q0, q1, q2, q3, qf, ql⟩ := cells4 hf
    exact bodyPost_ret (v := tokV t) (by simp [results, Tryz.results282, go_sem, q0, q1, q2, q3, tokV]) rfl (RPost.done HZ2.1 rfl (Nat.le_succ _) HZ2.2 rfl)
  · rw [if_neg hft]
    have HFT := Lib.hid hft
    clear hft
    go_upto_region 3 with (go_at_fn F; refine HC.out.mono ?_; rintro e w3 ⟨he, hb3⟩; rw [show f t = false by simpa using HFT.out] at he; subst he; have HB3 := Lib.hid hb3; have HFA := Lib.hid (fail_any (H2.out.under hb3) HT.out 60); clear hb3 HC)
    go_wp2_with (go_at_call 284; refine HFA.out.mono ?_; rintro e w4 ⟨he, hb4⟩; unfold faultE at he; subst he; have HB4 := Lib.hid hb4; clear hb4 HFA)
    have hbb := HW.out.trans ((HB2.out.trans (HB3.out.mono HB2.out.size)).mono HW.out.size)
    exact ⟨rfl, RPost.fault (Kb.of_below (hbb.trans (HB4.out.mono hbb.size))) rfl⟩
end Go.Proofs.YtggdpgaedmegbaaGreatDoor
