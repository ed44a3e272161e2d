/-
  row of tree's writer: its statements one tab further in; the tab is taken back by a deferred call. Conditions: the writer is one that this call has made; the statements lie below it.
-/
import Derived.Test.YtgogdcpgfmndnaaGreatDoorTLine
import Derived.Test.YtgogdcpgfmndnaaGreatDoorTBox2
import Derived.Defers
namespace Go.Proofs.YtgogdcpgfmndnaaGreatDoor
open Go.RowKit

set_option maxHeartbeats 2000000 in
theorem back_deferred (tabs B b bx : Nat) (bs0 : List UInt8) (u : FrameMode) (w : World) (h : IsB3 (.int .i64 ((tabs + 1 : Nat) : Int)) B b (Lib.byteCells bs0) w) (ht : tabs ≤ 100000000000000) (hx : w.heap[bx]? = some (.cells #[.pointer (some ⟨b, 0, none⟩)] 127)) :
    CallsD Tryz.prog 105 #[.pointer (some ⟨bx, 0, none⟩)] u w fun e u' w' => u' = u ∧ (e = .returned (.tuple #[]) ∧ IsB3 (.int .i64 tabs) B b (Lib.byteCells bs0) w' ∧ Kp B b w w') := by
  have hB := h.base
  have z2 := h.cell2
  have f2 := h.free2 2
  have zx : w.cell? ⟨bx, 0, none⟩ = some (.pointer (some ⟨b, 0, none⟩)) := by simp [World.cell?, hx]
  have e1 : ((tabs + 1 : Nat) : Int) = (tabs : Int) + 1 := by omega
  have HF := Lib.hid (show IsB3 (.int .i64 tabs) B b (Lib.byteCells bs0) (w.setCell ⟨b, 2, none⟩ (.int .i64 tabs)) ∧ Kp B b w (w.setCell ⟨b, 2, none⟩ (.int .i64 tabs)) from
    ⟨h.tabs _, (Below.refl _ _).setCell hB _, (Lib.OthersKept.refl 5 (some b) w).setCell ⟨b, 2, none⟩ rfl _⟩)
  rw [e1] at z2
  have hsub : (tabs : Int) + 1 - 1 = tabs := by omega
  clear h hx e1
  go_enter_d Tryz.func105, Tryz.ntmps105
  go_wp2
  go_end0
  first | exact ⟨rfl, HF.out⟩ | (rw [hsub]; exact ⟨rfl, HF.out⟩)

def rowT (g : Nat → St5 → List UInt8) (tabs : Nat) (l : List St5) : List UInt8 := l.flatMap (g tabs)

set_option maxRecDepth 100000 in
set_option maxHeartbeats 4000000 in
theorem row_step (g : Nat → St5 → List UInt8) (P : St5 → Prop) (tabs B b : Nat) (bs0 : List UInt8) (hd : Hd) (l : List St5) (w0 w : World) (hw0 : w0.heap.size = B) (h : IsB3 (.int .i64 tabs) B b (Lib.byteCells bs0) w) (hb0 : Below B w0 w)
    (hL : Row w0 hd 21 l stC P) (hlen : bs0.length + (rowT g (tabs + 1) l).length ≤ 100000000000000) (ht : tabs + 1 ≤ 100000000000000)
    (hS : ∀ (x : St5), x ∈ l → ∀ (bs1 : List UInt8) (w1 : World), IsB3 (.int .i64 ((tabs + 1 : Nat) : Int)) B b (Lib.byteCells bs1) w1 → Below B w0 w1 → bs1.length + (g (tabs + 1) x).length ≤ 100000000000000 →
      Calls Tryz.prog 82 #[.pointer (some ⟨b, 0, none⟩), stV x] w1 fun e w' => e = .returned (.tuple #[]) ∧ IsB3 (.int .i64 ((tabs + 1 : Nat) : Int)) B b (Lib.byteCells (bs1 ++ g (tabs + 1) x)) w' ∧ Kp B b w1 w') :
    Calls Tryz.prog 52 #[.pointer (some ⟨b, 0, none⟩), .slice hd.oa l.length hd.cap] w fun e w' => e = .returned (.tuple #[]) ∧ IsB3 (.int .i64 tabs) B b (Lib.byteCells (bs0 ++ rowT g (tabs + 1) l)) w' ∧ Kp B b w w' := by
  obtain ⟨oa, cap⟩ := hd
  obtain ⟨hl1, hl2, hl3, -⟩ := hL
  dsimp only at hl1 hl2 hl3 ⊢
  unfold maxLen at hl2
  replace hl3 := Lib.hid hl3
  replace hS := Lib.hid hS
  have hBw : B ≤ w.heap.size := by have := hb0.size; omega
  have HF := Lib.hid (further_any tabs B b bs0 w h (by omega) hBw)
  have hltb := h.lt
  have HB0 := Lib.hid hb0
  replace hw0 := Lib.hid hw0
  have hrl : rowT g (tabs + 1) l = l.flatMap (g (tabs + 1)) := rfl
  rw [hrl] at hlen ⊢
  clear h hb0 hrl
  go_enter_defers Tryz.func52, Tryz.ntmps52
  go_wp2_with fail
  refine HF.out.mono ?_
  rintro e w1 ⟨rfl, h1, K1, hx1⟩
  have H1 := Lib.hid h1
  have KK1 := Lib.hid K1
  obtain ⟨bx, hbx⟩ : ∃ bx, bx = w.heap.size := ⟨_, rfl⟩
  rw [← hbx] at hx1 ⊢
  have hbxb : bx ≠ b := by omega
  have HX1 := Lib.hid hx1
  clear h1 K1 hx1 hbx HF
  go_wp2_with fail
  go_loopw [10] (fun u wr => ∃ j : Nat, j ≤ l.length ∧ u = .int .i64 j ∧ IsB3 (.int .i64 ((tabs + 1 : Nat) : Int)) B b (Lib.byteCells (bs0 ++ (l.take j).flatMap (g (tabs + 1)))) wr ∧ Kp B b w wr ∧ wr.heap[bx]? = some (.cells #[.pointer (some ⟨b, 0, none⟩)] 127)) (fun u _ => l.length - (intOf u).toNat)
  case atStart => exact ⟨0, by omega, rfl, by simpa using H1.out, KK1.out, HX1.out⟩
  case round =>
    clear H1 KK1 HX1
    obtain ⟨j, hj, rfl, H, K, hxr⟩ := hrel
    have hBr : B ≤ wr.heap.size := Nat.le_trans hBw K.below.size
    by_cases hjl : j < l.length
    · have t1 : decide ((j : Int) < l.length) = true := by simp; omega
      obtain ⟨ba, offa, rfl, hlt, hcell⟩ := hl3.out (by omega)
      obtain ⟨x, hx⟩ : ∃ x, l[j]? = some x := ⟨_, List.getElem?_eq_getElem hjl⟩
      have hb0r : Below B w0 wr := HB0.out.trans K.below
      have gx := Lib.hid (show wr.rangeAt ba (offa + j * 21) (stC x) from fun i v hv => (hb0r.cell (p := ⟨ba, offa + j * 21 + i, none⟩) (by have := hw0.out; show ba < B; omega)).trans (hcell j x hx i v hv))
      have HSN := Lib.hid (flatMap_snoc (g (tabs + 1)) l j x hx)
      have hln := flatMap_len (g (tabs + 1)) l j x hx
      have hmem := Lib.hid (List.mem_of_getElem? hx)
      obtain ⟨pre, hpre⟩ : ∃ q, q = bs0 ++ (l.take j).flatMap (g (tabs + 1)) := ⟨_, rfl⟩
      rw [← hpre] at H
      have hprl : pre.length = bs0.length + ((l.take j).flatMap (g (tabs + 1))).length := by rw [hpre, List.length_append]
      have HPRE := Lib.hid hpre
      have hcall := Lib.hid (show ∀ W, Below wr.heap.size wr W → Calls Tryz.prog 82 #[.pointer (some ⟨b, 0, none⟩), .agg (stC x).toArray] W fun e w' => e = .returned (.tuple #[]) ∧ IsB3 (.int .i64 ((tabs + 1 : Nat) : Int)) B b (Lib.byteCells (pre ++ g (tabs + 1) x)) w' ∧ Kp B b W w' from fun W hW => hS.out x hmem.out pre W (H.below hW) (hb0r.trans (hW.mono hBr)) (by omega))
      clear hx hcell hpre hb0r
      go_wp2_with (first
        | (refine wpList_load_mid rfl 52 (.tmp 12) rfl ba (offa + j * 21) rfl (stC x) _ gx.out Tryz.underlying52 rfl (stC_info x) ?_)
        | (refine wpList_store_new rfl 52 (.tmp 5) (.tmp 13) rfl wr _ _ rfl (stC x) rfl (by rw [stC_len]; exact Nat.le_refl _) (stC_info x) (stC_one x) ?_; intro W1 hW1 hr1 hs1; replace hr1 := Lib.hid hr1; have HW1 := Lib.hid hW1; clear hW1; have hsz1 : wr.heap.size < W1.heap.size := (by omega); replace hs1 := Lib.hid hs1)
        | (refine wpList_load_mid rfl 52 (.tmp 5) rfl wr.heap.size 0 rfl (stC x) _ hr1.out Tryz.underlying52 rfl (stC_info x) ?_)
        | (go_at_call 82; refine (hcall.out _ HW1.out).mono ?_; rintro e w2 ⟨rfl, H2, K2⟩; have KW := Lib.hid ((Kp.of_below HW1.out hBr).trans K2); replace H2 := Lib.hid H2; clear K2))
      go_roundw
      case rel => exact ⟨j + 1, by omega, by go_num, by rw [HSN.out, ← List.append_assoc, ← HPRE.out]; exact H2.out, K.trans KW.out, kp_block KW.out hxr hbxb (by decide)⟩
      case measure => simp [intOf]; omega
    · have t1 : decide ((j : Int) < l.length) = false := by simp; omega
      obtain rfl : j = l.length := by omega
      rw [List.take_length] at H
      go_wp2
      refine leaves_cons (f := 105) (args := #[.pointer (some ⟨bx, 0, none⟩)]) (by simp) (by simp [go_sem]) ?_
      refine (back_deferred tabs B b bx (bs0 ++ l.flatMap (g (tabs + 1))) .returning wr H (by omega) hxr).mono ?_
      rintro e u' w9 ⟨rfl, rfl, h9, K9⟩
      exact ⟨_, results_none rfl _ _ _, rfl, h9, K.trans K9⟩
end Go.Proofs.YtgogdcpgfmndnaaGreatDoor
