/-
  line and further of tree's writer. Conditions: the writer is one that this call has made; its text is no longer than a machine's.
-/
import Derived.Test.YtgogdcpgfmndnaaGreatDoorTPlace
namespace Go.Proofs.YtgogdcpgfmndnaaGreatDoor
open Go.RowKit

def lineT (tabs : Nat) (ps : List ByteArray) : List UInt8 := List.replicate tabs 9 ++ ps.flatMap bs ++ [10]

set_option maxRecDepth 100000 in
set_option maxHeartbeats 4000000 in
theorem line_any (tabs B b k cap : Nat) (bs0 : List UInt8) (ps : List ByteArray) (w : World) (h : IsB3 (.int .i64 tabs) B b (Lib.byteCells bs0) w) (hk : w.heap[k]? = some (.cells (ps.map Value.string).toArray 9)) (hkb : k ≠ b) (hBw : B ≤ w.heap.size) (hpl : ps.length ≤ 1000)
    (hlen : bs0.length + (lineT tabs ps).length ≤ 100000000000000) :
    Calls Tryz.prog 47 #[.pointer (some ⟨b, 0, none⟩), .slice (some ⟨k, 0, none⟩) ps.length cap] w fun e w' => e = .returned (.tuple #[]) ∧ IsB3 (.int .i64 tabs) B b (Lib.byteCells (bs0 ++ lineT tabs ps)) w' ∧ Kp B b w w' := by
  have z2 := h.cell2
  have hll : (lineT tabs ps).length = tabs + (ps.flatMap bs).length + 1 := by simp only [lineT, List.length_append, List.length_replicate, List.length_singleton]
  replace hk := Lib.hid hk
  have HH := Lib.hid h
  have ht : tabs ≤ 100000000000000 := by omega
  clear h
  go_enter Tryz.func47, Tryz.ntmps47
  go_wp2_with fail
  go_loopw [10] (fun u wr => ∃ j : Nat, j ≤ tabs ∧ u = .int .i64 j ∧ IsB3 (.int .i64 tabs) B b (Lib.byteCells (bs0 ++ List.replicate j 9)) wr ∧ Kp B b w wr) (fun u _ => tabs - (intOf u).toNat)
  case atStart => exact ⟨0, by omega, rfl, by simpa using HH.out, Kp.refl _ _ _⟩
  case round =>
    obtain ⟨j, hj, rfl, H, K⟩ := hrel
    have hBr : B ≤ wr.heap.size := Nat.le_trans hBw K.below.size
    by_cases hjl : j < tabs
    · have t1 : decide ((j : Int) < tabs) = true := by simp; omega
      go_wp2_with fail
      refine (writeByte3_any _ _ _ _ 9 wr H (by rw [Lib.byteCells_length, List.length_append, List.length_replicate]; omega) hBr).mono ?_
      rintro e w2 ⟨rfl, h2, hb2, hk2⟩
      have K2 := K.trans ⟨hb2, hk2⟩
      have H2 : IsB3 (.int .i64 tabs) B b (Lib.byteCells (bs0 ++ List.replicate (j + 1) 9)) w2 := by
        have e : bs0 ++ List.replicate (j + 1) (9 : UInt8) = (bs0 ++ List.replicate j 9) ++ [9] := by rw [List.replicate_succ', List.append_assoc]
        rw [e, Lib.byteCells_append]
        exact .inr h2
      clear h2 hb2 hk2 H K
      go_wp2
      go_roundw
      case rel => exact ⟨j + 1, by omega, by go_num, H2, K2⟩
      case measure => simp [intOf]; omega
    · have t1 : decide ((j : Int) < tabs) = false := by simp; omega
      obtain rfl : j = tabs := by omega
      obtain ⟨pre, hpre⟩ : ∃ l, l = bs0 ++ List.replicate j 9 := ⟨_, rfl⟩
      rw [← hpre] at H
      have hprl : pre.length = bs0.length + j := by rw [hpre]; simp
      have HPRE := Lib.hid hpre
      have HH1 := Lib.hid H
      have KK1 := Lib.hid K
      clear hpre H K t1 hjl
      obtain ⟨w1, hw1⟩ : ∃ w1, w1 = wr := ⟨_, rfl⟩
      rw [← hw1] at HH1 KK1 hBr ⊢
      clear hw1
      go_wp2_with fail
      go_loopw [19] (fun u wr => ∃ i : Nat, i ≤ ps.length ∧ u = .int .i64 i ∧ IsB3 (.int .i64 j) B b (Lib.byteCells (pre ++ (ps.take i).flatMap bs)) wr ∧ Kp B b w wr) (fun u _ => ps.length - (intOf u).toNat)
      case atStart => exact ⟨0, by omega, rfl, by simpa using HH1.out, KK1.out⟩
      case round =>
        clear HH1 KK1 hBr
        obtain ⟨i, hi, rfl, H, K⟩ := hrel
        have hBr : B ≤ wr.heap.size := Nat.le_trans hBw K.below.size
        by_cases hil : i < ps.length
        · have t2 : decide ((i : Int) < ps.length) = true := by simp; omega
          obtain ⟨x, hx⟩ : ∃ x, ps[i]? = some x := ⟨_, List.getElem?_eq_getElem hil⟩
          have hkr := kp_block K hk.out hkb (by decide)
          have g0 : wr.cell? ⟨k, i, none⟩ = some (.string x) := by simp [World.cell?, hkr, hx]
          have HS := Lib.hid (flatMap_snoc bs ps i x hx)
          have hln := flatMap_len bs ps i x hx
          rw [bs_len] at hln
          clear hx hkr
          go_wp2_with fail
          refine (writeString3_any _ _ _ _ x wr H (by rw [Lib.byteCells_length, List.length_append]; omega) hBr).mono ?_
          rintro e w2 ⟨rfl, h2, hb2, hk2⟩
          have K2 := K.trans ⟨hb2, hk2⟩
          have H2 : IsB3 (.int .i64 j) B b (Lib.byteCells (pre ++ (ps.take (i + 1)).flatMap bs)) w2 := by
            rw [HS.out, ← List.append_assoc, Lib.byteCells_append, ← cells_str]
            exact .inr h2
          clear h2 hb2 hk2 H K g0
          go_wp2
          go_roundw
          case rel => exact ⟨i + 1, by omega, by go_num, H2, K2⟩
          case measure => simp [intOf]; omega
        · have t2 : decide ((i : Int) < ps.length) = false := by simp; omega
          obtain rfl : i = ps.length := by omega
          rw [List.take_length] at H
          go_wp2_with fail
          refine (writeByte3_any _ _ _ _ 10 wr H (by rw [Lib.byteCells_length, List.length_append]; omega) hBr).mono ?_
          rintro e w2 ⟨rfl, h2, hb2, hk2⟩
          have K2 := K.trans ⟨hb2, hk2⟩
          have H2 : IsB3 (.int .i64 j) B b (Lib.byteCells (bs0 ++ lineT j ps)) w2 := by
            have e : bs0 ++ lineT j ps = pre ++ ps.flatMap bs ++ [10] := by rw [HPRE.out, lineT]; simp
            rw [e, Lib.byteCells_append]
            exact .inr h2
          clear h2 hb2 hk2
          go_wp2
          go_end0
          exact ⟨rfl, H2, K2⟩

set_option maxHeartbeats 2000000 in
theorem further_any (tabs B b : Nat) (bs0 : List UInt8) (w : World) (h : IsB3 (.int .i64 tabs) B b (Lib.byteCells bs0) w) (ht : tabs ≤ 100000000000000) (hBw : B ≤ w.heap.size) :
    Calls Tryz.prog 81 #[.pointer (some ⟨b, 0, none⟩)] w fun e w' => e = .returned (.func (.func 105) #[] #[.pointer (some ⟨w.heap.size, 0, none⟩)]) ∧ IsB3 (.int .i64 ((tabs + 1 : Nat) : Int)) B b (Lib.byteCells bs0) w' ∧ Kp B b w w' ∧ w'.heap[w.heap.size]? = some (.cells #[.pointer (some ⟨b, 0, none⟩)] 127) := by
  have hlt := h.lt
  have hB := h.base
  have hb := alloc_below w (.cells #[.pointer (some ⟨b, 0, none⟩)] 127)
  have h2 := h.below hb
  have z2 := h2.cell2
  have f2 := h2.free2 2
  have hx := heap_alloc_new w (.cells #[.pointer (some ⟨b, 0, none⟩)] 127)
  have hmf : ∀ (fn : Fn) (first cap : Array Value) (w : World), (Instr.makeFunc fn first cap).run Tryz.prog w = .ok (.func fn first cap) w := fun _ _ _ _ => rfl
  have hxs : (w.setCell ⟨b, 2, none⟩ (.int .i64 ((tabs : Int) + 1))).heap.size = w.heap.size := by simp [World.setCell]
  have hx3 := heap_alloc_new (w.setCell ⟨b, 2, none⟩ (.int .i64 ((tabs : Int) + 1))) (.cells #[.pointer (some ⟨b, 0, none⟩)] 127)
  rw [hxs] at hx3
  have e1 : ((tabs + 1 : Nat) : Int) = (tabs : Int) + 1 := by omega
  have HF := Lib.hid (show IsB3 (.int .i64 ((tabs + 1 : Nat) : Int)) B b (Lib.byteCells bs0) ((w.setCell ⟨b, 2, none⟩ (.int .i64 ((tabs : Int) + 1))).alloc (.cells #[.pointer (some ⟨b, 0, none⟩)] 127)) ∧ Kp B b w ((w.setCell ⟨b, 2, none⟩ (.int .i64 ((tabs : Int) + 1))).alloc (.cells #[.pointer (some ⟨b, 0, none⟩)] 127)) ∧ ((w.setCell ⟨b, 2, none⟩ (.int .i64 ((tabs : Int) + 1))).alloc (.cells #[.pointer (some ⟨b, 0, none⟩)] 127)).heap[w.heap.size]? = some (.cells #[.pointer (some ⟨b, 0, none⟩)] 127) from by
    refine ⟨?_, ⟨?_, ?_⟩, hx3⟩
    · rw [e1]
      exact (h.tabs _).below (alloc_below _ _)
    · exact ((Below.refl _ _).setCell hB _).alloc (by rw [hxs]; exact hBw) _
    · exact ((Lib.OthersKept.refl 5 (some b) w).setCell ⟨b, 2, none⟩ rfl _).alloc _)
  clear hx3 hxs e1
  clear h h2 hx hb
  go_enter Tryz.func81, Tryz.ntmps81
  go_wp2
  go_ret
  exact ⟨rfl, HF.out⟩
end Go.Proofs.YtgogdcpgfmndnaaGreatDoor
