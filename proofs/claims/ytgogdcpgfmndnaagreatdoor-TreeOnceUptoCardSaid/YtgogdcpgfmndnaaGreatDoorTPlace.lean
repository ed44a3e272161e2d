/-
  Place and Oper of tree. Conditions: the place lies in the heap; its text is not empty, and no longer than a machine's strings.
-/
import Derived.Test.YtgogdcpgfmndnaaGreatDoorTStr
import Derived.Test.YtgogdcpgfmndnaaGreatDoorTValA
import Derived.Lib.AppendIntMem
namespace Go.Proofs.YtgogdcpgfmndnaaGreatDoor
open Go.RowKit

def stepT (f : ByteArray) : List UInt8 := 46 :: (if emptyN f then [42] else bs f)
def plT (p : Pl5) : List UInt8 := bs p.nm ++ p.path.flatMap stepT
theorem flatMap_snoc {α : Type} (g : α → List UInt8) (l : List α) (j : Nat) (x : α) (h : l[j]? = some x) : (l.take (j + 1)).flatMap g = (l.take j).flatMap g ++ g x := by
  obtain ⟨hj, hx⟩ := List.getElem?_eq_some_iff.1 h
  rw [List.take_succ_eq_append_getElem hj, hx, List.flatMap_append, List.flatMap_singleton]
theorem flatMap_len {α : Type} (g : α → List UInt8) (l : List α) (j : Nat) (x : α) (h : l[j]? = some x) : ((l.take j).flatMap g).length + (g x).length ≤ (l.flatMap g).length := by
  have e : l.flatMap g = (l.take (j + 1)).flatMap g ++ (l.drop (j + 1)).flatMap g := by rw [← List.flatMap_append, List.take_append_drop]
  rw [e, flatMap_snoc g l j x h]
  simp only [List.length_append]
  omega
theorem strB_append (a b : List UInt8) : strB a ++ strB b = strB (a ++ b) := by
  rw [← strB_of (strB a ++ strB b), bs]
  simp [strB]
theorem cells_str (s : ByteArray) : Lib.strCells s = Lib.byteCells (bs s) := Lib.strCells_eq s

set_option maxRecDepth 100000 in
set_option maxHeartbeats 4000000 in
theorem place_any (p : Pl5) (w : World) (hP : PlH w p) (h0 : plT p ≠ []) (hlen : (plT p).length ≤ 100000000000000) : Calls Tryz.prog 18 #[plV p] w fun e w' => e = .returned (.string (strB (plT p))) ∧ Below w.heap.size w w' := by
  obtain ⟨nm, ⟨oa, cap⟩, path⟩ := p
  obtain ⟨hp1, hp2, hp3, -⟩ := hP
  dsimp only at hp1 hp2 hp3
  unfold maxLen at hp2
  replace hp3 := Lib.hid hp3
  obtain ⟨R, hR⟩ : ∃ R, R = plT ⟨nm, ⟨oa, cap⟩, path⟩ := ⟨_, rfl⟩
  rw [← hR] at h0 hlen ⊢
  replace hR : R = bs nm ++ path.flatMap stepT := hR
  have hRl : R.length = nm.size + (path.flatMap stepT).length := by rw [hR, List.length_append, bs_len]
  replace hR := Lib.hid hR
  replace h0 := Lib.hid h0
  simp only [plV, plC]
  obtain ⟨W0, hW0⟩ : ∃ W, W = (w.alloc (.cells #[.string nm, .slice oa path.length cap] 39)).alloc (.cells #[.pointer none, .slice none 0 0, .int .i64 0] 96) := ⟨_, rfl⟩
  have hb0 : Below w.heap.size w W0 := by rw [hW0]; exact ((Below.refl _ _).alloc (Nat.le_refl _) _).alloc (by simp) _
  have hbx : W0.heap[w.heap.size]? = some (.cells #[.string nm, .slice oa path.length cap] 39) := by rw [hW0, heap_alloc_old _ _ (by simp), heap_alloc_new]
  have hI : IsB3 (.int .i64 0) w.heap.size (w.heap.size + 1) (Lib.byteCells []) W0 := by
    have := B3At.new (.int .i64 0) (w.alloc (.cells #[.string nm, .slice oa path.length cap] 39))
    obtain ⟨h1, v, h2, h3, h4⟩ := this
    rw [hW0]
    refine .inl ⟨by simp, .slice none 0 0, by simpa using heap_alloc_new (w.alloc (.cells #[.string nm, .slice oa path.length cap] 39)) (.cells #[.pointer none, .slice none 0 0, .int .i64 0] 96), World.ownsRowF_of (World.ownsRow_nil _ _ _ _), by simp [Value.ownBlock]⟩
  have hsz0 : w.heap.size ≤ W0.heap.size := hb0.size
  have HB0 := Lib.hid hb0
  go_enter Tryz.func18, Tryz.ntmps18
  go_wp2_with fail
  rw [← hW0]
  clear hW0 hb0
  refine (writeString3_any _ _ _ _ nm W0 hI (by rw [Lib.byteCells_length]; simp; omega) hsz0).mono ?_
  rintro e w1 ⟨rfl, h1, hb1, hk1⟩
  have K1 : Kp w.heap.size (w.heap.size + 1) W0 w1 := ⟨hb1, hk1⟩
  have hbx1 := kp_block K1 hbx (by omega) (by decide)
  have H1 : IsB3 (.int .i64 0) w.heap.size (w.heap.size + 1) (Lib.byteCells (bs nm)) w1 := by
    have e : Lib.byteCells ([] : List UInt8) ++ Lib.strCells nm = Lib.byteCells (bs nm) := by rw [cells_str]; rfl
    rw [e] at h1
    exact .inr h1
  have z0 : w1.cell? ⟨w.heap.size, 1, none⟩ = some (.slice oa path.length cap) := by simp [World.cell?, hbx1]
  have HB1 := Lib.hid (HB0.out.trans (hb1.mono (Nat.le_refl _)))
  replace hbx1 := Lib.hid hbx1
  clear h1 hb1 hk1 K1 hI hbx
  go_wp2_with fail
  go_loopw [13] (fun u wr => ∃ j : Nat, j ≤ path.length ∧ u = .int .i64 j ∧ IsB3 (.int .i64 0) w.heap.size (w.heap.size + 1) (Lib.byteCells (bs nm ++ (path.take j).flatMap stepT)) wr ∧ Below w.heap.size w wr) (fun u _ => path.length - (intOf u).toNat)
  case atStart => exact ⟨0, by omega, rfl, by simpa using H1, HB1.out⟩
  case round =>
    clear H1 z0
    obtain ⟨j, hj, rfl, HI, hbw⟩ := hrel
    have hsr := hbw.size
    by_cases hjl : j < path.length
    · have t1 : decide ((j : Int) < path.length) = true := by simp; omega
      obtain ⟨ba, offa, rfl, hlt, hcell⟩ := hp3.out (by omega)
      obtain ⟨x, hx⟩ : ∃ x, path[j]? = some x := ⟨_, List.getElem?_eq_getElem hjl⟩
      have g0 : wr.cell? ⟨ba, offa + j, none⟩ = some (.string x) := (hbw.cell (p := ⟨ba, offa + j, none⟩) hlt).trans (by simpa using hcell j _ hx 0 _ rfl)
      have HS := Lib.hid (flatMap_snoc stepT path j x hx)
      have hln := flatMap_len stepT path j x hx
      clear hx hcell
      have hb2 := alloc_below wr (.cells #[.string x] 58)
      have HI2 := HI.below hb2
      have hbw2 := hbw.trans (hb2.mono hsr)
      have hx2 := heap_alloc_new wr (.cells #[.string x] 58)
      have hne : wr.heap.size ≠ w.heap.size + 1 := by have := HI.lt; omega
      obtain ⟨pre, hpre⟩ : ∃ l, l = bs nm ++ (path.take j).flatMap stepT := ⟨_, rfl⟩
      rw [← hpre] at HI2
      have hprl : pre.length = nm.size + ((path.take j).flatMap stepT).length := by rw [hpre, List.length_append, bs_len]
      have hst : stepT x = 46 :: (if emptyN x then [42] else bs x) := rfl
      have hsl : (stepT x).length = 1 + (if emptyN x then 1 else x.size) := by
        rw [hst]
        split <;> simp <;> omega
      have HPRE := Lib.hid hpre
      have HST := Lib.hid hst
      clear hpre hst HI
      obtain ⟨W2, hW2⟩ : ∃ W, W = wr.alloc (.cells #[.string x] 58) := ⟨_, rfl⟩
      rw [← hW2] at HI2 hbw2 hx2 hb2
      have hB2 : w.heap.size ≤ W2.heap.size := hbw2.size
      replace hbw2 := Lib.hid hbw2
      go_wp2_with fail
      rw [← hW2]
      clear hW2
      refine (writeByte3_any _ _ _ _ 46 W2 HI2 (by rw [Lib.byteCells_length]; omega) hB2).mono ?_
      rintro e w3 ⟨rfl, h3, hb3, hk3⟩
      have hx3 := kp_block ⟨hb3, hk3⟩ hx2 hne (by decide)
      have H3 : IsB3 (.int .i64 0) w.heap.size (w.heap.size + 1) (Lib.byteCells (pre ++ [46])) w3 := by rw [Lib.byteCells_append]; exact .inr h3
      have hbw3 := Lib.hid (hbw2.out.trans hb3)
      have z3 : w3.cell? ⟨wr.heap.size, 0, none⟩ = some (.string x) := by simp [World.cell?, hx3]
      clear h3 hk3 HI2 hx2 hb3
      cases hem : emptyN x with
      | true =>
        obtain rfl := empty_of hem
        have HST2 := Lib.hid (show stepT ⟨#[]⟩ = [46, 42] from rfl)
        rw [hem, if_pos rfl] at hsl
        clear hem
        go_wp2_with fail
        refine (writeByte3_any _ _ _ _ 42 w3 H3 (by rw [Lib.byteCells_length, List.length_append, List.length_singleton]; omega) hbw3.out.size).mono ?_
        rintro e w4 ⟨rfl, h4, hb4, hk4⟩
        have hx4 := kp_block ⟨hb4, hk4⟩ hx3 hne (by decide)
        have z4 : w4.cell? ⟨wr.heap.size, 0, none⟩ = some (.string ⟨#[]⟩) := by simp [World.cell?, hx4]
        have H4 : IsB3 (.int .i64 0) w.heap.size (w.heap.size + 1) (Lib.byteCells (pre ++ [46] ++ [42])) w4 := by rw [Lib.byteCells_append]; exact .inr h4
        have hbw4 := Lib.hid (hbw3.out.trans hb4)
        clear h4 hb4 hk4 hx4 hx3 z3 H3
        go_wp2_with fail
        refine (writeString3_any _ _ _ _ ⟨#[]⟩ w4 H4 (by rw [Lib.byteCells_length, show (⟨#[]⟩ : ByteArray).size = 0 from rfl]; simp; omega) hbw4.out.size).mono ?_
        rintro e w5 ⟨rfl, h5, hb5, hk5⟩
        have H5 : IsB3 (.int .i64 0) w.heap.size (w.heap.size + 1) (Lib.byteCells (bs nm ++ (path.take (j + 1)).flatMap stepT)) w5 := by
          have e : bs nm ++ (path.take (j + 1)).flatMap stepT = pre ++ [46] ++ [42] := by rw [HS.out, HST2.out, ← List.append_assoc, ← HPRE.out]; simp
          rw [e]
          have e2 : Lib.byteCells (pre ++ [46] ++ [42]) ++ Lib.strCells ⟨#[]⟩ = Lib.byteCells (pre ++ [46] ++ [42]) := List.append_nil _
          rw [e2] at h5
          exact .inr h5
        have hbw5 := hbw4.out.trans hb5
        clear h5 hb5 hk5 z4 H4
        go_wp2
        go_roundw
        case rel => exact ⟨j + 1, by omega, by go_num, H5, hbw5⟩
        case measure => simp [intOf]; omega
      | false =>
        obtain ⟨e1, e2⟩ := empty_no hem
        have HST2 := Lib.hid (show stepT x = 46 :: bs x by rw [HST.out, hem]; rfl)
        rw [hem, if_neg (by decide)] at hsl
        clear hem
        go_wp2_with fail
        refine (writeString3_any _ _ _ _ x w3 H3 (by rw [Lib.byteCells_length, List.length_append, List.length_singleton]; omega) hbw3.out.size).mono ?_
        rintro e w5 ⟨rfl, h5, hb5, hk5⟩
        have H5 : IsB3 (.int .i64 0) w.heap.size (w.heap.size + 1) (Lib.byteCells (bs nm ++ (path.take (j + 1)).flatMap stepT)) w5 := by
          have e : bs nm ++ (path.take (j + 1)).flatMap stepT = pre ++ [46] ++ bs x := by rw [HS.out, HST2.out, ← List.append_assoc, ← HPRE.out]; simp
          rw [e, Lib.byteCells_append, ← cells_str]
          exact .inr h5
        have hbw5 := hbw3.out.trans hb5
        clear h5 hb5 hk5 z3 H3 hx3
        go_wp2
        go_roundw
        case rel => exact ⟨j + 1, by omega, by go_num, H5, hbw5⟩
        case measure => simp [intOf]; omega
    · have t1 : decide ((j : Int) < path.length) = false := by simp; omega
      obtain rfl : j = path.length := by omega
      rw [List.take_length, ← hR.out] at HI
      have hst := Lib.hid (string3_any _ _ _ R h0.out wr HI)
      go_wp2_with (go_at_call 53; refine hst.out.mono ?_; rintro e w9 ⟨rfl, hb9⟩; replace hb9 := Lib.hid hb9)
      go_ret
      exact ⟨rfl, hbw.trans hb9.out⟩

theorem oper_num (n : Int) (hn : I64 n) (p : Pl5) (w : World) (hV : Vz w) : Calls Tryz.prog 21 #[opV ⟨true, n, p⟩] w fun e w' => e = .returned (.string (strB (Lib.itoa n))) ∧ Below w.heap.size w w' := by
  obtain ⟨pn, ph, pp⟩ := p
  obtain ⟨n0, n1⟩ := hn
  simp only [opV, opC, plC, List.cons_append, List.nil_append]
  obtain ⟨W0, hW0⟩ : ∃ W, W = w.alloc (.cells #[.bool true, .int .i64 n, .string pn, .slice ph.oa pp.length ph.cap] 41) := ⟨_, rfl⟩
  have hb : Below w.heap.size w W0 := by rw [hW0]; exact alloc_below _ _
  have hc := Lib.hid (Tryz.strconv_Itoa n n0 n1 W0 (hV.b hb).pow)
  have HB := Lib.hid hb
  clear hV hb
  go_enter Tryz.func21, Tryz.ntmps21
  go_wp2_with fail
  rw [← hW0]
  clear hW0
  refine hc.out.mono ?_
  rintro e w1 ⟨rfl, q, os, hw1⟩
  have hg : Below W0.heap.size W0 w1 := by rw [hw1]; exact Lib.below_grow W0.heap.size W0 (Nat.le_refl _) q os
  have HB1 := Lib.hid (HB.out.trans (hg.mono HB.out.size))
  clear hw1 hg
  go_wp2
  go_ret
  exact ⟨rfl, HB1.out⟩
theorem oper_pl (n : Int) (p : Pl5) (w : World) (hP : PlH w p) (h0 : plT p ≠ []) (hlen : (plT p).length ≤ 100000000000000) : Calls Tryz.prog 21 #[opV ⟨false, n, p⟩] w fun e w' => e = .returned (.string (strB (plT p))) ∧ Below w.heap.size w w' := by
  obtain ⟨pn, ph, pp⟩ := p
  have hc : ∀ W, Below w.heap.size w W → Calls Tryz.prog 18 #[plV ⟨pn, ph, pp⟩] W fun e w' => e = .returned (.string (strB (plT ⟨pn, ph, pp⟩))) ∧ Below W.heap.size W w' := fun W hW => place_any _ W (hP.below hW) h0 hlen
  simp only [opV, opC, plV, plC, List.cons_append, List.nil_append] at hc ⊢
  replace hc := Lib.hid hc
  clear hP h0 hlen
  have HB := Lib.hid (alloc_below w (.cells #[.bool false, .int .i64 n, .string pn, .slice ph.oa pp.length ph.cap] 41))
  go_enter Tryz.func21, Tryz.ntmps21
  go_wp2_with (go_at_call 18; refine (hc.out _ HB.out).mono ?_; rintro e w1 ⟨rfl, hb1⟩; have HB1 := Lib.hid (HB.out.trans (hb1.mono HB.out.size)); clear hb1)
  go_ret
  exact ⟨rfl, HB1.out⟩
end Go.Proofs.YtgogdcpgfmndnaaGreatDoor
