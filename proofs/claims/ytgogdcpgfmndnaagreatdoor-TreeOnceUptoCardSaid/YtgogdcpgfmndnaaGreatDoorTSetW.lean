/-
  Set of tree, its operands, arguments and variants. Conditions: what is written lies in the heap, and is not longer than 10^14.
-/
import Derived.Test.YtgogdcpgfmndnaaGreatDoorTList
namespace Go.Proofs.YtgogdcpgfmndnaaGreatDoor
open Go.RowKit

def operandT (v : Rv5) (i : Nat) : List UInt8 := match v.ops[i]? with | some o => opT o | none => [63]
def argsT (v : Rv5) : List UInt8 := [40] ++ listT opT v.ops ++ [41]
def variantT (v : Rv5) : List UInt8 := bs v.nm ++ [58, 58] ++ bs v.vr ++ (if 0 < v.ops.length then argsT v else [])
def signT (k : Int) : List UInt8 := if k = 1 then [32, 43, 32] else if k = 2 then [32, 45, 32] else if k = 3 then [32, 42, 32] else if k = 4 then [32, 60, 32] else [32, 61, 61, 32]
def setT (v : Rv5) : List UInt8 :=
  if v.k = 0 then operandT v 0
  else if v.k = 1 ∨ v.k = 2 ∨ v.k = 3 ∨ v.k = 4 ∨ v.k = 5 then operandT v 0 ++ signT v.k ++ operandT v 1
  else if v.k = 6 then [38] ++ plT v.p
  else if v.k = 7 then [38, 109, 117, 116, 32] ++ plT v.p
  else if v.k = 8 then [98, 111, 120, 32] ++ operandT v 0
  else if v.k = 9 then [117, 110, 98, 111, 120, 32] ++ plT v.p
  else if v.k = 10 then bs v.nm ++ argsT v
  else if v.k = 11 then variantT v
  else if v.k = 12 then [115, 116, 97, 114, 116, 32] ++ bs v.nm ++ argsT v
  else if v.k = 13 then [97, 119, 97, 105, 116, 32] ++ plT v.p
  else if v.k = 14 then [112, 111, 108, 108, 32] ++ plT v.p
  else if v.k = 15 then [119, 97, 105, 116, 32] ++ operandT v 0
  else [63]
theorem strB_bsl (s : ByteArray) (l : List UInt8) : s ++ strB l = strB (bs s ++ l) := by
  rw [← strB_append, strB_of]
theorem enters21 (args : Array Value) (w : World) : (callFunc 21 args).run Tryz.prog w = .ok (.enter 21 args) w := Go.Proofs.enters_of Tryz.func21 (by kernel_rfl) rfl args w

set_option maxRecDepth 100000 in
set_option maxHeartbeats 2000000 in
theorem operand_any (v : Rv5) (i : Nat) (hi : i ≤ 1) (w : World) (hA : RvH w v) (hV : Vz w) (hlen : (operandT v i).length ≤ 100000000000000) : Calls Tryz.prog 56 #[rvV v, .int .i64 i] w fun e w' => e = .returned (.string (strB (operandT v i))) ∧ Below w.heap.size w w' := by
  obtain ⟨rk1, ⟨oa, capa⟩, la, ⟨pn1, ph1, pp1⟩, rn1, rr1⟩ := v
  obtain ⟨-, ⟨ha1, ha2, ha3, ha4⟩, -⟩ := hA
  dsimp only at ha1 ha2 ha3
  unfold maxLen at ha2
  obtain ⟨R, hR⟩ : ∃ R, R = operandT ⟨rk1, ⟨oa, capa⟩, la, ⟨pn1, ph1, pp1⟩, rn1, rr1⟩ i := ⟨_, rfl⟩
  rw [← hR] at hlen ⊢
  replace hR : R = (match la[i]? with | some o => opT o | none => [63]) := hR
  simp only [rvV, rvC, plC, List.cons_append, List.nil_append]
  have hb0 := alloc_below w (.cells #[.int .i64 rk1, .slice oa la.length capa, .string pn1, .slice ph1.oa pp1.length ph1.cap, .string rn1, .string rr1] 49)
  by_cases hil : i < la.length
  · have t0 : ¬ (la.length : Int) ≤ i := by omega
    have t1 : ¬ la.length ≤ i := by omega
    obtain ⟨ba, offa, rfl, hxlt, hxc⟩ := ha3 (by omega)
    obtain ⟨x, hx⟩ : ∃ x, la[i]? = some x := ⟨_, List.getElem?_eq_getElem hil⟩
    rw [hx] at hR
    dsimp only at hR
    have hc := oper_any x _ (OpH.below (ha4 x (List.mem_of_getElem? hx)) hb0) (hV.b hb0) (by rw [← hR]; exact hlen)
    rw [← hR] at hc
    obtain ⟨onx, oix, ⟨pnx, phx, ppx⟩⟩ := x
    simp only [opV, opC, plC, List.cons_append, List.nil_append] at hc
    obtain ⟨W0, hW0⟩ : ∃ W, W = w.alloc (.cells #[.int .i64 rk1, .slice (some ⟨ba, offa, none⟩) la.length capa, .string pn1, .slice ph1.oa pp1.length ph1.cap, .string rn1, .string rr1] 49) := ⟨_, rfl⟩
    have hx0 : W0.heap[w.heap.size]? = some (.cells #[.int .i64 rk1, .slice (some ⟨ba, offa, none⟩) la.length capa, .string pn1, .slice ph1.oa pp1.length ph1.cap, .string rn1, .string rr1] 49) := by rw [hW0, heap_alloc_new]
    rw [← hW0] at hb0 hc
    have y1 : W0.cell? ⟨w.heap.size, 1, none⟩ = some (.slice (some ⟨ba, offa, none⟩) la.length capa) := by simp [World.cell?, hx0]
    have g0 : W0.cell? ⟨ba, offa + i * 4, none⟩ = some (.bool onx) := (hb0.cell (p := ⟨ba, offa + i * 4, none⟩) hxlt).trans (by simpa using hxc i _ hx 0 _ rfl)
    have g1 : W0.cell? ⟨ba, offa + i * 4 + 1, none⟩ = some (.int .i64 oix) := (hb0.cell (p := ⟨ba, offa + i * 4 + 1, none⟩) hxlt).trans (by simpa using hxc i _ hx 1 _ rfl)
    have g2 : W0.cell? ⟨ba, offa + i * 4 + 2, none⟩ = some (.string pnx) := (hb0.cell (p := ⟨ba, offa + i * 4 + 2, none⟩) hxlt).trans (by simpa using hxc i _ hx 2 _ rfl)
    have g3 : W0.cell? ⟨ba, offa + i * 4 + 3, none⟩ = some (.slice phx.oa ppx.length phx.cap) := (hb0.cell (p := ⟨ba, offa + i * 4 + 3, none⟩) hxlt).trans (by simpa using hxc i _ hx 3 _ rfl)
    replace hc := Lib.hid hc
    have HB := Lib.hid hb0
    clear hx hxc ha4 hV hR hb0 hx0 hxlt
    go_enter Tryz.func56, Tryz.ntmps56
    go_upto_region 1 with fail
    rw [← hW0]
    clear hW0
    go_wp2_with (go_at_call 21; refine hc.out.mono ?_; rintro e w1 ⟨rfl, hb1⟩; have HB1 := Lib.hid (HB.out.trans (hb1.mono HB.out.size)); clear hb1)
    go_ret
    exact ⟨by first | done | rfl, HB1.out⟩
  · have t0 : (la.length : Int) ≤ i := by omega
    have t1 : la.length ≤ i := by omega
    rw [List.getElem?_eq_none (by omega)] at hR
    have HR := Lib.hid (show ⟨#[63]⟩ = strB R by rw [hR]; rfl)
    have HB := Lib.hid hb0
    clear hR ha3 ha4 hV hb0
    go_enter Tryz.func56, Tryz.ntmps56
    go_wp2_with fail
    go_ret
    exact ⟨by rw [← HR.out]; first | done | rfl, HB.out⟩

set_option maxRecDepth 100000 in
set_option maxHeartbeats 2000000 in
theorem args_any (v : Rv5) (w : World) (hA : RvH w v) (hV : Vz w) (hlen : (argsT v).length ≤ 100000000000000) : Calls Tryz.prog 57 #[rvV v] w fun e w' => e = .returned (.string (strB (argsT v))) ∧ Below w.heap.size w w' := by
  obtain ⟨rk1, rh1, ro1, ⟨pn1, ph1, pp1⟩, rn1, rr1⟩ := v
  obtain ⟨R, hR⟩ : ∃ R, R = argsT ⟨rk1, rh1, ro1, ⟨pn1, ph1, pp1⟩, rn1, rr1⟩ := ⟨_, rfl⟩
  rw [← hR] at hlen ⊢
  replace hR : R = [40] ++ listT opT ro1 ++ [41] := hR
  have hll : (listT opT ro1).length ≤ 100000000000000 := by rw [hR] at hlen; simp only [List.length_append, List.length_cons, List.length_nil] at hlen; omega
  have hb0 := alloc_below w (.cells #[.int .i64 rk1, .slice rh1.oa ro1.length rh1.cap, .string pn1, .slice ph1.oa pp1.length ph1.cap, .string rn1, .string rr1] 49)
  have hc := listOp_any 21 enters21 opT (fun w x => OpH w x ∧ Vz w) (fun w w' x h hb => ⟨h.1.below hb, h.2.b hb⟩) (w.alloc (.cells #[.int .i64 rk1, .slice rh1.oa ro1.length rh1.cap, .string pn1, .slice ph1.oa pp1.length ph1.cap, .string rn1, .string rr1] 49)) (fun x W hx hW hl => oper_any x W hx.1 hx.2 hl) rh1 ro1 (Row.below hA.2.1 hb0 fun _ _ hx => ⟨OpH.below hx hb0, hV.b hb0⟩) hll
  obtain ⟨TX, hTX⟩ : ∃ t, t = listT opT ro1 := ⟨_, rfl⟩
  rw [← hTX] at hc hR hll
  have HR := Lib.hid (show (⟨#[40]⟩ : ByteArray) ++ strB TX ++ ⟨#[41]⟩ = strB R by rw [hR, ← strB_append, ← strB_append]; rfl)
  have hz : (strB TX).size ≤ 100000000000000 := by rw [strB_size]; exact hll
  replace hc := Lib.hid hc
  have HB := Lib.hid hb0
  simp only [rvV, rvC, plC, List.cons_append, List.nil_append]
  clear hTX hR hll hb0 hA hV
  go_enter Tryz.func57, Tryz.ntmps57
  go_wp2_with (go_at_call 84; refine hc.out.mono ?_; rintro e w1 ⟨rfl, hb1⟩; have HB1 := Lib.hid (HB.out.trans (hb1.mono HB.out.size)); clear hb1)
  go_ret
  exact ⟨by rw [← HR.out]; first | done | rfl, HB1.out⟩

set_option maxRecDepth 100000 in
set_option maxHeartbeats 2000000 in
theorem variantOf_any (v : Rv5) (w : World) (hA : RvH w v) (hV : Vz w) (hlen : (variantT v).length ≤ 100000000000000) : Calls Tryz.prog 58 #[rvV v] w fun e w' => e = .returned (.string (strB (variantT v))) ∧ Below w.heap.size w w' := by
  obtain ⟨rk1, rh1, ro1, ⟨pn1, ph1, pp1⟩, rn1, rr1⟩ := v
  obtain ⟨R, hR⟩ : ∃ R, R = variantT ⟨rk1, rh1, ro1, ⟨pn1, ph1, pp1⟩, rn1, rr1⟩ := ⟨_, rfl⟩
  rw [← hR] at hlen ⊢
  replace hR : R = bs rn1 ++ [58, 58] ++ bs rr1 ++ (if 0 < ro1.length then argsT ⟨rk1, rh1, ro1, ⟨pn1, ph1, pp1⟩, rn1, rr1⟩ else []) := hR
  have hcap := hA.2.1.1
  have hcap2 := hA.2.1.2.1
  unfold maxLen at hcap2
  dsimp only at hcap hcap2
  have hb0 := alloc_below w (.cells #[.int .i64 rk1, .slice rh1.oa ro1.length rh1.cap, .string pn1, .slice ph1.oa pp1.length ph1.cap, .string rn1, .string rr1] 49)
  have hz1 : rn1.size ≤ 100000000000000 := by rw [hR] at hlen; simp only [List.length_append, bs_len] at hlen; omega
  have hz2 : rr1.size ≤ 100000000000000 := by rw [hR] at hlen; simp only [List.length_append, bs_len] at hlen; omega
  by_cases h0 : 0 < ro1.length
  · rw [if_pos h0] at hR
    have hl : (argsT ⟨rk1, rh1, ro1, ⟨pn1, ph1, pp1⟩, rn1, rr1⟩).length ≤ 100000000000000 := by rw [hR] at hlen; simp only [List.length_append] at hlen; omega
    have hc := args_any ⟨rk1, rh1, ro1, ⟨pn1, ph1, pp1⟩, rn1, rr1⟩ (w.alloc (.cells #[.int .i64 rk1, .slice rh1.oa ro1.length rh1.cap, .string pn1, .slice ph1.oa pp1.length ph1.cap, .string rn1, .string rr1] 49)) (hA.below hb0) (hV.b hb0) hl
    obtain ⟨TX, hTX⟩ : ∃ t, t = argsT ⟨rk1, rh1, ro1, ⟨pn1, ph1, pp1⟩, rn1, rr1⟩ := ⟨_, rfl⟩
    rw [← hTX] at hc hR hl
    have HR := Lib.hid (show rn1 ++ (⟨#[58, 58]⟩ : ByteArray) ++ rr1 ++ strB TX = strB R by rw [hR, ← strB_append, ← strB_append, ← strB_append, strB_of, strB_of]; rfl)
    have hz : (strB TX).size ≤ 100000000000000 := by rw [strB_size]; exact hl
    simp only [rvV, rvC, plC, List.cons_append, List.nil_append] at hc ⊢
    replace hc := Lib.hid hc
    have HB := Lib.hid hb0
    clear hTX hR hl hb0 hA hV hlen
    go_enter Tryz.func58, Tryz.ntmps58
    go_wp2_with (go_at_call 57; refine hc.out.mono ?_; rintro e w1 ⟨rfl, hb1⟩; have HB1 := Lib.hid (HB.out.trans (hb1.mono HB.out.size)); clear hb1)
    go_ret
    exact ⟨by rw [← HR.out]; first | done | rfl, HB1.out⟩
  · rw [if_neg h0, List.append_nil] at hR
    have HR := Lib.hid (show rn1 ++ (⟨#[58, 58]⟩ : ByteArray) ++ rr1 = strB R by rw [hR, ← strB_append, ← strB_append, strB_of, strB_of]; rfl)
    simp only [rvV, rvC, plC, List.cons_append, List.nil_append]
    have HB := Lib.hid hb0
    clear hR hb0 hA hV hlen
    go_enter Tryz.func58, Tryz.ntmps58
    go_wp2_with fail
    go_ret
    exact ⟨by rw [← HR.out]; first | done | rfl, HB.out⟩

set_option maxRecDepth 100000 in
set_option maxHeartbeats 4000000 in
theorem set_0 (rh1 : Hd) (ro1 : List Op5) (pn1 : ByteArray) (ph1 : Hd) (pp1 : List ByteArray) (rn1 rr1 : ByteArray) (w : World) (hA : RvH w ⟨0, rh1, ro1, ⟨pn1, ph1, pp1⟩, rn1, rr1⟩) (hV : Vz w) (hlen : (setT ⟨0, rh1, ro1, ⟨pn1, ph1, pp1⟩, rn1, rr1⟩).length ≤ 100000000000000) : Calls Tryz.prog 19 #[rvV ⟨0, rh1, ro1, ⟨pn1, ph1, pp1⟩, rn1, rr1⟩] w fun e w' => e = .returned (.string (strB (setT ⟨0, rh1, ro1, ⟨pn1, ph1, pp1⟩, rn1, rr1⟩))) ∧ Below w.heap.size w w' := by
  obtain ⟨R, hR⟩ : ∃ R, R = setT ⟨0, rh1, ro1, ⟨pn1, ph1, pp1⟩, rn1, rr1⟩ := ⟨_, rfl⟩
  rw [← hR] at hlen ⊢
  have hb0 := alloc_below w (.cells #[.int .i64 0, .slice rh1.oa ro1.length rh1.cap, .string pn1, .slice ph1.oa pp1.length ph1.cap, .string rn1, .string rr1] 49)
  replace hR : R = operandT ⟨0, rh1, ro1, ⟨pn1, ph1, pp1⟩, rn1, rr1⟩ 0 := hR
  have hl : (operandT ⟨0, rh1, ro1, ⟨pn1, ph1, pp1⟩, rn1, rr1⟩ 0).length ≤ 100000000000000 := by rw [hR] at hlen; (try simp only [List.length_append] at hlen); omega
  have hc := operand_any ⟨0, rh1, ro1, ⟨pn1, ph1, pp1⟩, rn1, rr1⟩ 0 (by omega) (w.alloc (.cells #[.int .i64 0, .slice rh1.oa ro1.length rh1.cap, .string pn1, .slice ph1.oa pp1.length ph1.cap, .string rn1, .string rr1] 49)) (hA.below hb0) (hV.b hb0) hl
  obtain ⟨TX, hTX⟩ : ∃ t, t = operandT ⟨0, rh1, ro1, ⟨pn1, ph1, pp1⟩, rn1, rr1⟩ 0 := ⟨_, rfl⟩
  rw [← hTX] at hc hR hl
  have HR := Lib.hid (show strB TX = strB R by rw [hR])
  skip
  simp only [rvV, rvC, plC, List.cons_append, List.nil_append] at hc ⊢
  replace hc := Lib.hid hc
  have HB := Lib.hid hb0
  clear hTX hR hl hb0 hA hV hlen
  go_enter Tryz.func19, Tryz.ntmps19
  go_wp2_with (go_at_call 56; refine hc.out.mono ?_; rintro e w1 ⟨rfl, hb1⟩; have HB1 := Lib.hid (HB.out.trans (hb1.mono HB.out.size)); clear hb1)
  go_ret
  exact ⟨by rw [← HR.out]; first | done | rfl, HB1.out⟩

set_option maxRecDepth 100000 in
set_option maxHeartbeats 4000000 in
theorem set_6 (rh1 : Hd) (ro1 : List Op5) (pn1 : ByteArray) (ph1 : Hd) (pp1 : List ByteArray) (rn1 rr1 : ByteArray) (w : World) (hA : RvH w ⟨6, rh1, ro1, ⟨pn1, ph1, pp1⟩, rn1, rr1⟩) (_ : Vz w) (hlen : (setT ⟨6, rh1, ro1, ⟨pn1, ph1, pp1⟩, rn1, rr1⟩).length ≤ 100000000000000) : Calls Tryz.prog 19 #[rvV ⟨6, rh1, ro1, ⟨pn1, ph1, pp1⟩, rn1, rr1⟩] w fun e w' => e = .returned (.string (strB (setT ⟨6, rh1, ro1, ⟨pn1, ph1, pp1⟩, rn1, rr1⟩))) ∧ Below w.heap.size w w' := by
  obtain ⟨R, hR⟩ : ∃ R, R = setT ⟨6, rh1, ro1, ⟨pn1, ph1, pp1⟩, rn1, rr1⟩ := ⟨_, rfl⟩
  rw [← hR] at hlen ⊢
  have hb0 := alloc_below w (.cells #[.int .i64 6, .slice rh1.oa ro1.length rh1.cap, .string pn1, .slice ph1.oa pp1.length ph1.cap, .string rn1, .string rr1] 49)
  replace hR : R = [38] ++ plT ⟨pn1, ph1, pp1⟩ := hR
  have hl : (plT ⟨pn1, ph1, pp1⟩).length ≤ 100000000000000 := by rw [hR] at hlen; (try simp only [List.length_append] at hlen); omega
  have hc := placeA_any ⟨pn1, ph1, pp1⟩ (w.alloc (.cells #[.int .i64 6, .slice rh1.oa ro1.length rh1.cap, .string pn1, .slice ph1.oa pp1.length ph1.cap, .string rn1, .string rr1] 49)) (hA.2.2.below hb0) hl
  obtain ⟨TX, hTX⟩ : ∃ t, t = plT ⟨pn1, ph1, pp1⟩ := ⟨_, rfl⟩
  rw [← hTX] at hc hR hl
  have HR := Lib.hid (show (⟨#[38]⟩ : ByteArray) ++ strB TX = strB R by rw [hR, ← strB_append]; rfl)
  have hz : (strB TX).size ≤ 100000000000000 := by rw [strB_size]; exact hl
  simp only [rvV, rvC, plC, List.cons_append, List.nil_append, plV] at hc ⊢
  replace hc := Lib.hid hc
  have HB := Lib.hid hb0
  clear hTX hR hl hb0 hA hlen
  go_enter Tryz.func19, Tryz.ntmps19
  go_wp2_with (go_at_call 18; refine hc.out.mono ?_; rintro e w1 ⟨rfl, hb1⟩; have HB1 := Lib.hid (HB.out.trans (hb1.mono HB.out.size)); clear hb1)
  go_ret
  exact ⟨by rw [← HR.out]; first | done | rfl, HB1.out⟩

set_option maxRecDepth 100000 in
set_option maxHeartbeats 4000000 in
theorem set_7 (rh1 : Hd) (ro1 : List Op5) (pn1 : ByteArray) (ph1 : Hd) (pp1 : List ByteArray) (rn1 rr1 : ByteArray) (w : World) (hA : RvH w ⟨7, rh1, ro1, ⟨pn1, ph1, pp1⟩, rn1, rr1⟩) (_ : Vz w) (hlen : (setT ⟨7, rh1, ro1, ⟨pn1, ph1, pp1⟩, rn1, rr1⟩).length ≤ 100000000000000) : Calls Tryz.prog 19 #[rvV ⟨7, rh1, ro1, ⟨pn1, ph1, pp1⟩, rn1, rr1⟩] w fun e w' => e = .returned (.string (strB (setT ⟨7, rh1, ro1, ⟨pn1, ph1, pp1⟩, rn1, rr1⟩))) ∧ Below w.heap.size w w' := by
  obtain ⟨R, hR⟩ : ∃ R, R = setT ⟨7, rh1, ro1, ⟨pn1, ph1, pp1⟩, rn1, rr1⟩ := ⟨_, rfl⟩
  rw [← hR] at hlen ⊢
  have hb0 := alloc_below w (.cells #[.int .i64 7, .slice rh1.oa ro1.length rh1.cap, .string pn1, .slice ph1.oa pp1.length ph1.cap, .string rn1, .string rr1] 49)
  replace hR : R = [38, 109, 117, 116, 32] ++ plT ⟨pn1, ph1, pp1⟩ := hR
  have hl : (plT ⟨pn1, ph1, pp1⟩).length ≤ 100000000000000 := by rw [hR] at hlen; (try simp only [List.length_append] at hlen); omega
  have hc := placeA_any ⟨pn1, ph1, pp1⟩ (w.alloc (.cells #[.int .i64 7, .slice rh1.oa ro1.length rh1.cap, .string pn1, .slice ph1.oa pp1.length ph1.cap, .string rn1, .string rr1] 49)) (hA.2.2.below hb0) hl
  obtain ⟨TX, hTX⟩ : ∃ t, t = plT ⟨pn1, ph1, pp1⟩ := ⟨_, rfl⟩
  rw [← hTX] at hc hR hl
  have HR := Lib.hid (show (⟨#[38, 109, 117, 116, 32]⟩ : ByteArray) ++ strB TX = strB R by rw [hR, ← strB_append]; rfl)
  have hz : (strB TX).size ≤ 100000000000000 := by rw [strB_size]; exact hl
  simp only [rvV, rvC, plC, List.cons_append, List.nil_append, plV] at hc ⊢
  replace hc := Lib.hid hc
  have HB := Lib.hid hb0
  clear hTX hR hl hb0 hA hlen
  go_enter Tryz.func19, Tryz.ntmps19
  go_wp2_with (go_at_call 18; refine hc.out.mono ?_; rintro e w1 ⟨rfl, hb1⟩; have HB1 := Lib.hid (HB.out.trans (hb1.mono HB.out.size)); clear hb1)
  go_ret
  exact ⟨by rw [← HR.out]; first | done | rfl, HB1.out⟩

set_option maxRecDepth 100000 in
set_option maxHeartbeats 4000000 in
theorem set_8 (rh1 : Hd) (ro1 : List Op5) (pn1 : ByteArray) (ph1 : Hd) (pp1 : List ByteArray) (rn1 rr1 : ByteArray) (w : World) (hA : RvH w ⟨8, rh1, ro1, ⟨pn1, ph1, pp1⟩, rn1, rr1⟩) (hV : Vz w) (hlen : (setT ⟨8, rh1, ro1, ⟨pn1, ph1, pp1⟩, rn1, rr1⟩).length ≤ 100000000000000) : Calls Tryz.prog 19 #[rvV ⟨8, rh1, ro1, ⟨pn1, ph1, pp1⟩, rn1, rr1⟩] w fun e w' => e = .returned (.string (strB (setT ⟨8, rh1, ro1, ⟨pn1, ph1, pp1⟩, rn1, rr1⟩))) ∧ Below w.heap.size w w' := by
  obtain ⟨R, hR⟩ : ∃ R, R = setT ⟨8, rh1, ro1, ⟨pn1, ph1, pp1⟩, rn1, rr1⟩ := ⟨_, rfl⟩
  rw [← hR] at hlen ⊢
  have hb0 := alloc_below w (.cells #[.int .i64 8, .slice rh1.oa ro1.length rh1.cap, .string pn1, .slice ph1.oa pp1.length ph1.cap, .string rn1, .string rr1] 49)
  replace hR : R = [98, 111, 120, 32] ++ operandT ⟨8, rh1, ro1, ⟨pn1, ph1, pp1⟩, rn1, rr1⟩ 0 := hR
  have hl : (operandT ⟨8, rh1, ro1, ⟨pn1, ph1, pp1⟩, rn1, rr1⟩ 0).length ≤ 100000000000000 := by rw [hR] at hlen; (try simp only [List.length_append] at hlen); omega
  have hc := operand_any ⟨8, rh1, ro1, ⟨pn1, ph1, pp1⟩, rn1, rr1⟩ 0 (by omega) (w.alloc (.cells #[.int .i64 8, .slice rh1.oa ro1.length rh1.cap, .string pn1, .slice ph1.oa pp1.length ph1.cap, .string rn1, .string rr1] 49)) (hA.below hb0) (hV.b hb0) hl
  obtain ⟨TX, hTX⟩ : ∃ t, t = operandT ⟨8, rh1, ro1, ⟨pn1, ph1, pp1⟩, rn1, rr1⟩ 0 := ⟨_, rfl⟩
  rw [← hTX] at hc hR hl
  have HR := Lib.hid (show (⟨#[98, 111, 120, 32]⟩ : ByteArray) ++ strB TX = strB R by rw [hR, ← strB_append]; rfl)
  have hz : (strB TX).size ≤ 100000000000000 := by rw [strB_size]; exact hl
  simp only [rvV, rvC, plC, List.cons_append, List.nil_append] at hc ⊢
  replace hc := Lib.hid hc
  have HB := Lib.hid hb0
  clear hTX hR hl hb0 hA hV hlen
  go_enter Tryz.func19, Tryz.ntmps19
  go_wp2_with (go_at_call 56; refine hc.out.mono ?_; rintro e w1 ⟨rfl, hb1⟩; have HB1 := Lib.hid (HB.out.trans (hb1.mono HB.out.size)); clear hb1)
  go_ret
  exact ⟨by rw [← HR.out]; first | done | rfl, HB1.out⟩

set_option maxRecDepth 100000 in
set_option maxHeartbeats 4000000 in
theorem set_9 (rh1 : Hd) (ro1 : List Op5) (pn1 : ByteArray) (ph1 : Hd) (pp1 : List ByteArray) (rn1 rr1 : ByteArray) (w : World) (hA : RvH w ⟨9, rh1, ro1, ⟨pn1, ph1, pp1⟩, rn1, rr1⟩) (_ : Vz w) (hlen : (setT ⟨9, rh1, ro1, ⟨pn1, ph1, pp1⟩, rn1, rr1⟩).length ≤ 100000000000000) : Calls Tryz.prog 19 #[rvV ⟨9, rh1, ro1, ⟨pn1, ph1, pp1⟩, rn1, rr1⟩] w fun e w' => e = .returned (.string (strB (setT ⟨9, rh1, ro1, ⟨pn1, ph1, pp1⟩, rn1, rr1⟩))) ∧ Below w.heap.size w w' := by
  obtain ⟨R, hR⟩ : ∃ R, R = setT ⟨9, rh1, ro1, ⟨pn1, ph1, pp1⟩, rn1, rr1⟩ := ⟨_, rfl⟩
  rw [← hR] at hlen ⊢
  have hb0 := alloc_below w (.cells #[.int .i64 9, .slice rh1.oa ro1.length rh1.cap, .string pn1, .slice ph1.oa pp1.length ph1.cap, .string rn1, .string rr1] 49)
  replace hR : R = [117, 110, 98, 111, 120, 32] ++ plT ⟨pn1, ph1, pp1⟩ := hR
  have hl : (plT ⟨pn1, ph1, pp1⟩).length ≤ 100000000000000 := by rw [hR] at hlen; (try simp only [List.length_append] at hlen); omega
  have hc := placeA_any ⟨pn1, ph1, pp1⟩ (w.alloc (.cells #[.int .i64 9, .slice rh1.oa ro1.length rh1.cap, .string pn1, .slice ph1.oa pp1.length ph1.cap, .string rn1, .string rr1] 49)) (hA.2.2.below hb0) hl
  obtain ⟨TX, hTX⟩ : ∃ t, t = plT ⟨pn1, ph1, pp1⟩ := ⟨_, rfl⟩
  rw [← hTX] at hc hR hl
  have HR := Lib.hid (show (⟨#[117, 110, 98, 111, 120, 32]⟩ : ByteArray) ++ strB TX = strB R by rw [hR, ← strB_append]; rfl)
  have hz : (strB TX).size ≤ 100000000000000 := by rw [strB_size]; exact hl
  simp only [rvV, rvC, plC, List.cons_append, List.nil_append, plV] at hc ⊢
  replace hc := Lib.hid hc
  have HB := Lib.hid hb0
  clear hTX hR hl hb0 hA hlen
  go_enter Tryz.func19, Tryz.ntmps19
  go_wp2_with (go_at_call 18; refine hc.out.mono ?_; rintro e w1 ⟨rfl, hb1⟩; have HB1 := Lib.hid (HB.out.trans (hb1.mono HB.out.size)); clear hb1)
  go_ret
  exact ⟨by rw [← HR.out]; first | done | rfl, HB1.out⟩

set_option maxRecDepth 100000 in
set_option maxHeartbeats 4000000 in
theorem set_11 (rh1 : Hd) (ro1 : List Op5) (pn1 : ByteArray) (ph1 : Hd) (pp1 : List ByteArray) (rn1 rr1 : ByteArray) (w : World) (hA : RvH w ⟨11, rh1, ro1, ⟨pn1, ph1, pp1⟩, rn1, rr1⟩) (hV : Vz w) (hlen : (setT ⟨11, rh1, ro1, ⟨pn1, ph1, pp1⟩, rn1, rr1⟩).length ≤ 100000000000000) : Calls Tryz.prog 19 #[rvV ⟨11, rh1, ro1, ⟨pn1, ph1, pp1⟩, rn1, rr1⟩] w fun e w' => e = .returned (.string (strB (setT ⟨11, rh1, ro1, ⟨pn1, ph1, pp1⟩, rn1, rr1⟩))) ∧ Below w.heap.size w w' := by
  obtain ⟨R, hR⟩ : ∃ R, R = setT ⟨11, rh1, ro1, ⟨pn1, ph1, pp1⟩, rn1, rr1⟩ := ⟨_, rfl⟩
  rw [← hR] at hlen ⊢
  have hb0 := alloc_below w (.cells #[.int .i64 11, .slice rh1.oa ro1.length rh1.cap, .string pn1, .slice ph1.oa pp1.length ph1.cap, .string rn1, .string rr1] 49)
  replace hR : R = variantT ⟨11, rh1, ro1, ⟨pn1, ph1, pp1⟩, rn1, rr1⟩ := hR
  have hl : (variantT ⟨11, rh1, ro1, ⟨pn1, ph1, pp1⟩, rn1, rr1⟩).length ≤ 100000000000000 := by rw [hR] at hlen; (try simp only [List.length_append] at hlen); omega
  have hc := variantOf_any ⟨11, rh1, ro1, ⟨pn1, ph1, pp1⟩, rn1, rr1⟩ (w.alloc (.cells #[.int .i64 11, .slice rh1.oa ro1.length rh1.cap, .string pn1, .slice ph1.oa pp1.length ph1.cap, .string rn1, .string rr1] 49)) (hA.below hb0) (hV.b hb0) hl
  obtain ⟨TX, hTX⟩ : ∃ t, t = variantT ⟨11, rh1, ro1, ⟨pn1, ph1, pp1⟩, rn1, rr1⟩ := ⟨_, rfl⟩
  rw [← hTX] at hc hR hl
  have HR := Lib.hid (show strB TX = strB R by rw [hR])
  skip
  simp only [rvV, rvC, plC, List.cons_append, List.nil_append] at hc ⊢
  replace hc := Lib.hid hc
  have HB := Lib.hid hb0
  clear hTX hR hl hb0 hA hV hlen
  go_enter Tryz.func19, Tryz.ntmps19
  go_wp2_with (go_at_call 58; refine hc.out.mono ?_; rintro e w1 ⟨rfl, hb1⟩; have HB1 := Lib.hid (HB.out.trans (hb1.mono HB.out.size)); clear hb1)
  go_ret
  exact ⟨by rw [← HR.out]; first | done | rfl, HB1.out⟩

set_option maxRecDepth 100000 in
set_option maxHeartbeats 4000000 in
theorem set_13 (rh1 : Hd) (ro1 : List Op5) (pn1 : ByteArray) (ph1 : Hd) (pp1 : List ByteArray) (rn1 rr1 : ByteArray) (w : World) (hA : RvH w ⟨13, rh1, ro1, ⟨pn1, ph1, pp1⟩, rn1, rr1⟩) (_ : Vz w) (hlen : (setT ⟨13, rh1, ro1, ⟨pn1, ph1, pp1⟩, rn1, rr1⟩).length ≤ 100000000000000) : Calls Tryz.prog 19 #[rvV ⟨13, rh1, ro1, ⟨pn1, ph1, pp1⟩, rn1, rr1⟩] w fun e w' => e = .returned (.string (strB (setT ⟨13, rh1, ro1, ⟨pn1, ph1, pp1⟩, rn1, rr1⟩))) ∧ Below w.heap.size w w' := by
  obtain ⟨R, hR⟩ : ∃ R, R = setT ⟨13, rh1, ro1, ⟨pn1, ph1, pp1⟩, rn1, rr1⟩ := ⟨_, rfl⟩
  rw [← hR] at hlen ⊢
  have hb0 := alloc_below w (.cells #[.int .i64 13, .slice rh1.oa ro1.length rh1.cap, .string pn1, .slice ph1.oa pp1.length ph1.cap, .string rn1, .string rr1] 49)
  replace hR : R = [97, 119, 97, 105, 116, 32] ++ plT ⟨pn1, ph1, pp1⟩ := hR
  have hl : (plT ⟨pn1, ph1, pp1⟩).length ≤ 100000000000000 := by rw [hR] at hlen; (try simp only [List.length_append] at hlen); omega
  have hc := placeA_any ⟨pn1, ph1, pp1⟩ (w.alloc (.cells #[.int .i64 13, .slice rh1.oa ro1.length rh1.cap, .string pn1, .slice ph1.oa pp1.length ph1.cap, .string rn1, .string rr1] 49)) (hA.2.2.below hb0) hl
  obtain ⟨TX, hTX⟩ : ∃ t, t = plT ⟨pn1, ph1, pp1⟩ := ⟨_, rfl⟩
  rw [← hTX] at hc hR hl
  have HR := Lib.hid (show (⟨#[97, 119, 97, 105, 116, 32]⟩ : ByteArray) ++ strB TX = strB R by rw [hR, ← strB_append]; rfl)
  have hz : (strB TX).size ≤ 100000000000000 := by rw [strB_size]; exact hl
  simp only [rvV, rvC, plC, List.cons_append, List.nil_append, plV] at hc ⊢
  replace hc := Lib.hid hc
  have HB := Lib.hid hb0
  clear hTX hR hl hb0 hA hlen
  go_enter Tryz.func19, Tryz.ntmps19
  go_wp2_with (go_at_call 18; refine hc.out.mono ?_; rintro e w1 ⟨rfl, hb1⟩; have HB1 := Lib.hid (HB.out.trans (hb1.mono HB.out.size)); clear hb1)
  go_ret
  exact ⟨by rw [← HR.out]; first | done | rfl, HB1.out⟩

set_option maxRecDepth 100000 in
set_option maxHeartbeats 4000000 in
theorem set_14 (rh1 : Hd) (ro1 : List Op5) (pn1 : ByteArray) (ph1 : Hd) (pp1 : List ByteArray) (rn1 rr1 : ByteArray) (w : World) (hA : RvH w ⟨14, rh1, ro1, ⟨pn1, ph1, pp1⟩, rn1, rr1⟩) (_ : Vz w) (hlen : (setT ⟨14, rh1, ro1, ⟨pn1, ph1, pp1⟩, rn1, rr1⟩).length ≤ 100000000000000) : Calls Tryz.prog 19 #[rvV ⟨14, rh1, ro1, ⟨pn1, ph1, pp1⟩, rn1, rr1⟩] w fun e w' => e = .returned (.string (strB (setT ⟨14, rh1, ro1, ⟨pn1, ph1, pp1⟩, rn1, rr1⟩))) ∧ Below w.heap.size w w' := by
  obtain ⟨R, hR⟩ : ∃ R, R = setT ⟨14, rh1, ro1, ⟨pn1, ph1, pp1⟩, rn1, rr1⟩ := ⟨_, rfl⟩
  rw [← hR] at hlen ⊢
  have hb0 := alloc_below w (.cells #[.int .i64 14, .slice rh1.oa ro1.length rh1.cap, .string pn1, .slice ph1.oa pp1.length ph1.cap, .string rn1, .string rr1] 49)
  replace hR : R = [112, 111, 108, 108, 32] ++ plT ⟨pn1, ph1, pp1⟩ := hR
  have hl : (plT ⟨pn1, ph1, pp1⟩).length ≤ 100000000000000 := by rw [hR] at hlen; (try simp only [List.length_append] at hlen); omega
  have hc := placeA_any ⟨pn1, ph1, pp1⟩ (w.alloc (.cells #[.int .i64 14, .slice rh1.oa ro1.length rh1.cap, .string pn1, .slice ph1.oa pp1.length ph1.cap, .string rn1, .string rr1] 49)) (hA.2.2.below hb0) hl
  obtain ⟨TX, hTX⟩ : ∃ t, t = plT ⟨pn1, ph1, pp1⟩ := ⟨_, rfl⟩
  rw [← hTX] at hc hR hl
  have HR := Lib.hid (show (⟨#[112, 111, 108, 108, 32]⟩ : ByteArray) ++ strB TX = strB R by rw [hR, ← strB_append]; rfl)
  have hz : (strB TX).size ≤ 100000000000000 := by rw [strB_size]; exact hl
  simp only [rvV, rvC, plC, List.cons_append, List.nil_append, plV] at hc ⊢
  replace hc := Lib.hid hc
  have HB := Lib.hid hb0
  clear hTX hR hl hb0 hA hlen
  go_enter Tryz.func19, Tryz.ntmps19
  go_wp2_with (go_at_call 18; refine hc.out.mono ?_; rintro e w1 ⟨rfl, hb1⟩; have HB1 := Lib.hid (HB.out.trans (hb1.mono HB.out.size)); clear hb1)
  go_ret
  exact ⟨by rw [← HR.out]; first | done | rfl, HB1.out⟩

set_option maxRecDepth 100000 in
set_option maxHeartbeats 4000000 in
theorem set_15 (rh1 : Hd) (ro1 : List Op5) (pn1 : ByteArray) (ph1 : Hd) (pp1 : List ByteArray) (rn1 rr1 : ByteArray) (w : World) (hA : RvH w ⟨15, rh1, ro1, ⟨pn1, ph1, pp1⟩, rn1, rr1⟩) (hV : Vz w) (hlen : (setT ⟨15, rh1, ro1, ⟨pn1, ph1, pp1⟩, rn1, rr1⟩).length ≤ 100000000000000) : Calls Tryz.prog 19 #[rvV ⟨15, rh1, ro1, ⟨pn1, ph1, pp1⟩, rn1, rr1⟩] w fun e w' => e = .returned (.string (strB (setT ⟨15, rh1, ro1, ⟨pn1, ph1, pp1⟩, rn1, rr1⟩))) ∧ Below w.heap.size w w' := by
  obtain ⟨R, hR⟩ : ∃ R, R = setT ⟨15, rh1, ro1, ⟨pn1, ph1, pp1⟩, rn1, rr1⟩ := ⟨_, rfl⟩
  rw [← hR] at hlen ⊢
  have hb0 := alloc_below w (.cells #[.int .i64 15, .slice rh1.oa ro1.length rh1.cap, .string pn1, .slice ph1.oa pp1.length ph1.cap, .string rn1, .string rr1] 49)
  replace hR : R = [119, 97, 105, 116, 32] ++ operandT ⟨15, rh1, ro1, ⟨pn1, ph1, pp1⟩, rn1, rr1⟩ 0 := hR
  have hl : (operandT ⟨15, rh1, ro1, ⟨pn1, ph1, pp1⟩, rn1, rr1⟩ 0).length ≤ 100000000000000 := by rw [hR] at hlen; (try simp only [List.length_append] at hlen); omega
  have hc := operand_any ⟨15, rh1, ro1, ⟨pn1, ph1, pp1⟩, rn1, rr1⟩ 0 (by omega) (w.alloc (.cells #[.int .i64 15, .slice rh1.oa ro1.length rh1.cap, .string pn1, .slice ph1.oa pp1.length ph1.cap, .string rn1, .string rr1] 49)) (hA.below hb0) (hV.b hb0) hl
  obtain ⟨TX, hTX⟩ : ∃ t, t = operandT ⟨15, rh1, ro1, ⟨pn1, ph1, pp1⟩, rn1, rr1⟩ 0 := ⟨_, rfl⟩
  rw [← hTX] at hc hR hl
  have HR := Lib.hid (show (⟨#[119, 97, 105, 116, 32]⟩ : ByteArray) ++ strB TX = strB R by rw [hR, ← strB_append]; rfl)
  have hz : (strB TX).size ≤ 100000000000000 := by rw [strB_size]; exact hl
  simp only [rvV, rvC, plC, List.cons_append, List.nil_append] at hc ⊢
  replace hc := Lib.hid hc
  have HB := Lib.hid hb0
  clear hTX hR hl hb0 hA hV hlen
  go_enter Tryz.func19, Tryz.ntmps19
  go_wp2_with (go_at_call 56; refine hc.out.mono ?_; rintro e w1 ⟨rfl, hb1⟩; have HB1 := Lib.hid (HB.out.trans (hb1.mono HB.out.size)); clear hb1)
  go_ret
  exact ⟨by rw [← HR.out]; first | done | rfl, HB1.out⟩

set_option maxRecDepth 100000 in
set_option maxHeartbeats 4000000 in
theorem set_X (k : Int) (rh1 : Hd) (ro1 : List Op5) (pn1 : ByteArray) (ph1 : Hd) (pp1 : List ByteArray) (rn1 rr1 : ByteArray) (w : World) (q0 : ¬ k = 0) (q1 : ¬ k = 1) (q2 : ¬ k = 2) (q3 : ¬ k = 3) (q4 : ¬ k = 4) (q5 : ¬ k = 5) (q6 : ¬ k = 6) (q7 : ¬ k = 7) (q8 : ¬ k = 8) (q9 : ¬ k = 9) (q10 : ¬ k = 10) (q11 : ¬ k = 11) (q12 : ¬ k = 12) (q13 : ¬ k = 13) (q14 : ¬ k = 14) (q15 : ¬ k = 15) : Calls Tryz.prog 19 #[rvV ⟨k, rh1, ro1, ⟨pn1, ph1, pp1⟩, rn1, rr1⟩] w fun e w' => e = .returned (.string (strB (setT ⟨k, rh1, ro1, ⟨pn1, ph1, pp1⟩, rn1, rr1⟩))) ∧ Below w.heap.size w w' := by
  have HR := Lib.hid (show setT ⟨k, rh1, ro1, ⟨pn1, ph1, pp1⟩, rn1, rr1⟩ = [63] by simp [setT, q0, q1, q2, q3, q4, q5, q6, q7, q8, q9, q10, q11, q12, q13, q14, q15])
  have HB := Lib.hid (alloc_below w (.cells #[.int .i64 k, .slice rh1.oa ro1.length rh1.cap, .string pn1, .slice ph1.oa pp1.length ph1.cap, .string rn1, .string rr1] 49))
  have s0 : (k == 0) = false := by simpa using q0
  have s1 : (k == 1) = false := by simpa using q1
  have s2 : (k == 2) = false := by simpa using q2
  have s3 : (k == 3) = false := by simpa using q3
  have s4 : (k == 4) = false := by simpa using q4
  have s5 : (k == 5) = false := by simpa using q5
  have s6 : (k == 6) = false := by simpa using q6
  have s7 : (k == 7) = false := by simpa using q7
  have s8 : (k == 8) = false := by simpa using q8
  have s9 : (k == 9) = false := by simpa using q9
  have s10 : (k == 10) = false := by simpa using q10
  have s11 : (k == 11) = false := by simpa using q11
  have s12 : (k == 12) = false := by simpa using q12
  have s13 : (k == 13) = false := by simpa using q13
  have s14 : (k == 14) = false := by simpa using q14
  have s15 : (k == 15) = false := by simpa using q15
  clear q0 q1 q2 q3 q4 q5 q6 q7 q8 q9 q10 q11 q12 q13 q14 q15
  rw [HR.out]
  simp only [rvV, rvC, plC, List.cons_append, List.nil_append]
  go_enter Tryz.func19, Tryz.ntmps19
  go_wp2_with fail
  go_ret
  exact ⟨by first | done | rfl, HB.out⟩

set_option maxRecDepth 100000 in
set_option maxHeartbeats 4000000 in
theorem set_10 (rh1 : Hd) (ro1 : List Op5) (pn1 : ByteArray) (ph1 : Hd) (pp1 : List ByteArray) (rn1 rr1 : ByteArray) (w : World) (hA : RvH w ⟨10, rh1, ro1, ⟨pn1, ph1, pp1⟩, rn1, rr1⟩) (hV : Vz w) (hlen : (setT ⟨10, rh1, ro1, ⟨pn1, ph1, pp1⟩, rn1, rr1⟩).length ≤ 100000000000000) : Calls Tryz.prog 19 #[rvV ⟨10, rh1, ro1, ⟨pn1, ph1, pp1⟩, rn1, rr1⟩] w fun e w' => e = .returned (.string (strB (setT ⟨10, rh1, ro1, ⟨pn1, ph1, pp1⟩, rn1, rr1⟩))) ∧ Below w.heap.size w w' := by
  obtain ⟨R, hR⟩ : ∃ R, R = setT ⟨10, rh1, ro1, ⟨pn1, ph1, pp1⟩, rn1, rr1⟩ := ⟨_, rfl⟩
  rw [← hR] at hlen ⊢
  have hb0 := alloc_below w (.cells #[.int .i64 10, .slice rh1.oa ro1.length rh1.cap, .string pn1, .slice ph1.oa pp1.length ph1.cap, .string rn1, .string rr1] 49)
  replace hR : R = bs rn1 ++ argsT ⟨10, rh1, ro1, ⟨pn1, ph1, pp1⟩, rn1, rr1⟩ := hR
  have hl : (argsT ⟨10, rh1, ro1, ⟨pn1, ph1, pp1⟩, rn1, rr1⟩).length ≤ 100000000000000 := by rw [hR] at hlen; simp only [List.length_append] at hlen; omega
  have hz1 : rn1.size ≤ 100000000000000 := by rw [hR] at hlen; simp only [List.length_append, bs_len] at hlen; omega
  obtain ⟨W0, hW0⟩ : ∃ W, W = (w.alloc (.cells #[.int .i64 10, .slice rh1.oa ro1.length rh1.cap, .string pn1, .slice ph1.oa pp1.length ph1.cap, .string rn1, .string rr1] 49)) := ⟨_, rfl⟩
  have hx0 : W0.heap[w.heap.size]? = some (.cells #[.int .i64 10, .slice rh1.oa ro1.length rh1.cap, .string pn1, .slice ph1.oa pp1.length ph1.cap, .string rn1, .string rr1] 49) := by rw [hW0, heap_alloc_new]
  have hb1 : Below w.heap.size w W0 := by rw [hW0]; exact alloc_below _ _
  have hc := fun W (hW : Below w.heap.size w W) => args_any ⟨10, rh1, ro1, ⟨pn1, ph1, pp1⟩, rn1, rr1⟩ W (hA.below hW) (hV.b hW) hl
  obtain ⟨TX, hTX⟩ : ∃ t, t = argsT ⟨10, rh1, ro1, ⟨pn1, ph1, pp1⟩, rn1, rr1⟩ := ⟨_, rfl⟩
  rw [← hTX] at hc hR hl
  have HR := Lib.hid (show rn1 ++ strB TX = strB R by rw [hR, ← strB_append, strB_of])
  have hz : (strB TX).size ≤ 100000000000000 := by rw [strB_size]; exact hl
  simp only [rvV, rvC, plC, List.cons_append, List.nil_append] at hc ⊢
  replace hc := Lib.hid hc
  have hqq : ∀ w', Below W0.heap.size W0 w' → w'.cell? ⟨w.heap.size, 0, none⟩ = some (.int .i64 10) ∧ w'.cell? ⟨w.heap.size, 1, none⟩ = some (.slice rh1.oa ro1.length rh1.cap) ∧ w'.cell? ⟨w.heap.size, 2, none⟩ = some (.string pn1) ∧ w'.cell? ⟨w.heap.size, 3, none⟩ = some (.slice ph1.oa pp1.length ph1.cap) ∧ w'.cell? ⟨w.heap.size, 4, none⟩ = some (.string rn1) ∧ w'.cell? ⟨w.heap.size, 5, none⟩ = some (.string rr1) := fun w' h => by
    have := keepB hx0 h
    simp [World.cell?, this]
  obtain ⟨y0, y1, y2, y3, y4, y5⟩ := hqq W0 (Below.refl _ _)
  have HQ := Lib.hid hqq
  have HB := Lib.hid hb1
  clear hTX hR hl hb0 hb1 hA hV hlen hx0 hqq
  go_enter Tryz.func19, Tryz.ntmps19
  go_upto_region 19 with fail
  rw [← hW0]
  clear hW0
  go_region_with
    (first | (go_at_call 57; refine (hc.out W0.drew HB.out.drew).mono ?_; rintro e w2 ⟨rfl, hb2'⟩; have hb2 := below_undrew hb2'; obtain ⟨z0, z1, z2, z3, z4, z5⟩ := HQ.out w2 hb2; have HB2 := Lib.hid (HB.out.trans (hb2.mono HB.out.size)); clear hb2' hb2))
  all_goals (go_wp2; go_ret; exact ⟨by rw [← HR.out]; first | done | rfl, HB2.out⟩)

set_option maxRecDepth 100000 in
set_option maxHeartbeats 4000000 in
theorem set_12 (rh1 : Hd) (ro1 : List Op5) (pn1 : ByteArray) (ph1 : Hd) (pp1 : List ByteArray) (rn1 rr1 : ByteArray) (w : World) (hA : RvH w ⟨12, rh1, ro1, ⟨pn1, ph1, pp1⟩, rn1, rr1⟩) (hV : Vz w) (hlen : (setT ⟨12, rh1, ro1, ⟨pn1, ph1, pp1⟩, rn1, rr1⟩).length ≤ 100000000000000) : Calls Tryz.prog 19 #[rvV ⟨12, rh1, ro1, ⟨pn1, ph1, pp1⟩, rn1, rr1⟩] w fun e w' => e = .returned (.string (strB (setT ⟨12, rh1, ro1, ⟨pn1, ph1, pp1⟩, rn1, rr1⟩))) ∧ Below w.heap.size w w' := by
  obtain ⟨R, hR⟩ : ∃ R, R = setT ⟨12, rh1, ro1, ⟨pn1, ph1, pp1⟩, rn1, rr1⟩ := ⟨_, rfl⟩
  rw [← hR] at hlen ⊢
  have hb0 := alloc_below w (.cells #[.int .i64 12, .slice rh1.oa ro1.length rh1.cap, .string pn1, .slice ph1.oa pp1.length ph1.cap, .string rn1, .string rr1] 49)
  replace hR : R = [115, 116, 97, 114, 116, 32] ++ bs rn1 ++ argsT ⟨12, rh1, ro1, ⟨pn1, ph1, pp1⟩, rn1, rr1⟩ := hR
  have hl : (argsT ⟨12, rh1, ro1, ⟨pn1, ph1, pp1⟩, rn1, rr1⟩).length ≤ 100000000000000 := by rw [hR] at hlen; simp only [List.length_append] at hlen; omega
  have hz1 : rn1.size ≤ 100000000000000 := by rw [hR] at hlen; simp only [List.length_append, bs_len] at hlen; omega
  obtain ⟨W0, hW0⟩ : ∃ W, W = (w.alloc (.cells #[.int .i64 12, .slice rh1.oa ro1.length rh1.cap, .string pn1, .slice ph1.oa pp1.length ph1.cap, .string rn1, .string rr1] 49)) := ⟨_, rfl⟩
  have hx0 : W0.heap[w.heap.size]? = some (.cells #[.int .i64 12, .slice rh1.oa ro1.length rh1.cap, .string pn1, .slice ph1.oa pp1.length ph1.cap, .string rn1, .string rr1] 49) := by rw [hW0, heap_alloc_new]
  have hb1 : Below w.heap.size w W0 := by rw [hW0]; exact alloc_below _ _
  have hc := fun W (hW : Below w.heap.size w W) => args_any ⟨12, rh1, ro1, ⟨pn1, ph1, pp1⟩, rn1, rr1⟩ W (hA.below hW) (hV.b hW) hl
  obtain ⟨TX, hTX⟩ : ∃ t, t = argsT ⟨12, rh1, ro1, ⟨pn1, ph1, pp1⟩, rn1, rr1⟩ := ⟨_, rfl⟩
  rw [← hTX] at hc hR hl
  have HR := Lib.hid (show (⟨#[115, 116, 97, 114, 116, 32]⟩ : ByteArray) ++ rn1 ++ strB TX = strB R by rw [hR, ← strB_append, ← strB_append, strB_of]; rfl)
  have hz : (strB TX).size ≤ 100000000000000 := by rw [strB_size]; exact hl
  simp only [rvV, rvC, plC, List.cons_append, List.nil_append] at hc ⊢
  replace hc := Lib.hid hc
  have hqq : ∀ w', Below W0.heap.size W0 w' → w'.cell? ⟨w.heap.size, 0, none⟩ = some (.int .i64 12) ∧ w'.cell? ⟨w.heap.size, 1, none⟩ = some (.slice rh1.oa ro1.length rh1.cap) ∧ w'.cell? ⟨w.heap.size, 2, none⟩ = some (.string pn1) ∧ w'.cell? ⟨w.heap.size, 3, none⟩ = some (.slice ph1.oa pp1.length ph1.cap) ∧ w'.cell? ⟨w.heap.size, 4, none⟩ = some (.string rn1) ∧ w'.cell? ⟨w.heap.size, 5, none⟩ = some (.string rr1) := fun w' h => by
    have := keepB hx0 h
    simp [World.cell?, this]
  obtain ⟨y0, y1, y2, y3, y4, y5⟩ := hqq W0 (Below.refl _ _)
  have HQ := Lib.hid hqq
  have HB := Lib.hid hb1
  clear hTX hR hl hb0 hb1 hA hV hlen hx0 hqq
  go_enter Tryz.func19, Tryz.ntmps19
  go_upto_region 23 with fail
  rw [← hW0]
  clear hW0
  go_region_with
    (first | (go_at_call 57; refine (hc.out W0.drew HB.out.drew).mono ?_; rintro e w2 ⟨rfl, hb2'⟩; have hb2 := below_undrew hb2'; obtain ⟨z0, z1, z2, z3, z4, z5⟩ := HQ.out w2 hb2; have HB2 := Lib.hid (HB.out.trans (hb2.mono HB.out.size)); clear hb2' hb2))
  all_goals (go_wp2; go_ret; exact ⟨by rw [← HR.out]; first | done | rfl, HB2.out⟩)

set_option maxRecDepth 100000 in
set_option maxHeartbeats 4000000 in
theorem set_1 (rh1 : Hd) (ro1 : List Op5) (pn1 : ByteArray) (ph1 : Hd) (pp1 : List ByteArray) (rn1 rr1 : ByteArray) (w : World) (hA : RvH w ⟨1, rh1, ro1, ⟨pn1, ph1, pp1⟩, rn1, rr1⟩) (hV : Vz w) (hlen : (setT ⟨1, rh1, ro1, ⟨pn1, ph1, pp1⟩, rn1, rr1⟩).length ≤ 100000000000000) : Calls Tryz.prog 19 #[rvV ⟨1, rh1, ro1, ⟨pn1, ph1, pp1⟩, rn1, rr1⟩] w fun e w' => e = .returned (.string (strB (setT ⟨1, rh1, ro1, ⟨pn1, ph1, pp1⟩, rn1, rr1⟩))) ∧ Below w.heap.size w w' := by
  obtain ⟨R, hR⟩ : ∃ R, R = setT ⟨1, rh1, ro1, ⟨pn1, ph1, pp1⟩, rn1, rr1⟩ := ⟨_, rfl⟩
  rw [← hR] at hlen ⊢
  have hb0 := alloc_below w (.cells #[.int .i64 1, .slice rh1.oa ro1.length rh1.cap, .string pn1, .slice ph1.oa pp1.length ph1.cap, .string rn1, .string rr1] 49)
  replace hR : R = operandT ⟨1, rh1, ro1, ⟨pn1, ph1, pp1⟩, rn1, rr1⟩ 0 ++ [32, 43, 32] ++ operandT ⟨1, rh1, ro1, ⟨pn1, ph1, pp1⟩, rn1, rr1⟩ 1 := hR
  have hl0 : (operandT ⟨1, rh1, ro1, ⟨pn1, ph1, pp1⟩, rn1, rr1⟩ 0).length ≤ 100000000000000 := by rw [hR] at hlen; simp only [List.length_append] at hlen; omega
  have hl1 : (operandT ⟨1, rh1, ro1, ⟨pn1, ph1, pp1⟩, rn1, rr1⟩ 1).length ≤ 100000000000000 := by rw [hR] at hlen; simp only [List.length_append] at hlen; omega
  obtain ⟨W0, hW0⟩ : ∃ W, W = (w.alloc (.cells #[.int .i64 1, .slice rh1.oa ro1.length rh1.cap, .string pn1, .slice ph1.oa pp1.length ph1.cap, .string rn1, .string rr1] 49)) := ⟨_, rfl⟩
  have hx0 : W0.heap[w.heap.size]? = some (.cells #[.int .i64 1, .slice rh1.oa ro1.length rh1.cap, .string pn1, .slice ph1.oa pp1.length ph1.cap, .string rn1, .string rr1] 49) := by rw [hW0, heap_alloc_new]
  have hb1 : Below w.heap.size w W0 := by rw [hW0]; exact alloc_below _ _
  have hc0 := fun W (hW : Below w.heap.size w W) => operand_any ⟨1, rh1, ro1, ⟨pn1, ph1, pp1⟩, rn1, rr1⟩ 0 (by omega) W (hA.below hW) (hV.b hW) hl0
  have hc1 := fun W (hW : Below w.heap.size w W) => operand_any ⟨1, rh1, ro1, ⟨pn1, ph1, pp1⟩, rn1, rr1⟩ 1 (by omega) W (hA.below hW) (hV.b hW) hl1
  obtain ⟨TX, hTX⟩ : ∃ t, t = operandT ⟨1, rh1, ro1, ⟨pn1, ph1, pp1⟩, rn1, rr1⟩ 0 := ⟨_, rfl⟩
  obtain ⟨TY, hTY⟩ : ∃ t, t = operandT ⟨1, rh1, ro1, ⟨pn1, ph1, pp1⟩, rn1, rr1⟩ 1 := ⟨_, rfl⟩
  rw [← hTX] at hc0 hR hl0
  rw [← hTY] at hc1 hR hl1
  have HR := Lib.hid (show strB TX ++ ⟨#[32, 43, 32]⟩ ++ strB TY = strB R by rw [hR, ← strB_append, ← strB_append]; rfl)
  have hz : (strB TX).size ≤ 100000000000000 := by rw [strB_size]; exact hl0
  have hz1 : (strB TY).size ≤ 100000000000000 := by rw [strB_size]; exact hl1
  simp only [rvV, rvC, plC, List.cons_append, List.nil_append] at hc0 hc1 ⊢
  replace hc0 := Lib.hid hc0
  replace hc1 := Lib.hid hc1
  have hsg : ∀ w', Below w.heap.size w w' → w'.cell? ⟨0, 0, none⟩ = some (.string ⟨#[32, 43, 32]⟩) := fun w' h => (hV.b h).signs 0 _ rfl
  have hqq : ∀ w', Below W0.heap.size W0 w' → w'.cell? ⟨w.heap.size, 0, none⟩ = some (.int .i64 1) ∧ w'.cell? ⟨w.heap.size, 1, none⟩ = some (.slice rh1.oa ro1.length rh1.cap) ∧ w'.cell? ⟨w.heap.size, 2, none⟩ = some (.string pn1) ∧ w'.cell? ⟨w.heap.size, 3, none⟩ = some (.slice ph1.oa pp1.length ph1.cap) ∧ w'.cell? ⟨w.heap.size, 4, none⟩ = some (.string rn1) ∧ w'.cell? ⟨w.heap.size, 5, none⟩ = some (.string rr1) ∧ w'.cell? ⟨0, 0, none⟩ = some (.string ⟨#[32, 43, 32]⟩) := fun w' h => by
    have h1 := keepB hx0 h
    refine ⟨?_, ?_, ?_, ?_, ?_, ?_, hsg w' (hb1.trans (h.mono hb1.size))⟩ <;> simp [World.cell?, h1]
  obtain ⟨y0, y1, y2, y3, y4, y5, y6⟩ := hqq W0 (Below.refl _ _)
  have HQ := Lib.hid hqq
  have HB := Lib.hid hb1
  clear hTX hTY hR hl0 hl1 hb0 hb1 hA hV hlen hx0 hqq hsg
  go_enter Tryz.func19, Tryz.ntmps19
  go_upto_region 9 with fail
  rw [← hW0]
  clear hW0
  have hwr : IntKind.i64.wrap 0 = 0 := by decide +kernel
  have hwr2 : IntKind.i64.wrap (1 - 1) = 0 := by decide +kernel
  refine wp_region_held_drew (S := (fun w' => w'.cell? ⟨w.heap.size, 0, none⟩ = some (.int .i64 1) ∧ w'.cell? ⟨w.heap.size, 1, none⟩ = some (.slice rh1.oa ro1.length rh1.cap) ∧ w'.cell? ⟨w.heap.size, 2, none⟩ = some (.string pn1) ∧ w'.cell? ⟨w.heap.size, 3, none⟩ = some (.slice ph1.oa pp1.length ph1.cap) ∧ w'.cell? ⟨w.heap.size, 4, none⟩ = some (.string rn1) ∧ w'.cell? ⟨w.heap.size, 5, none⟩ = some (.string rr1) ∧ w'.cell? ⟨0, 0, none⟩ = some (.string ⟨#[32, 43, 32]⟩))) (by kernel_rfl) ?_ (fun hHeld => ?_)
  · exact ⟨y0, y1, y2, y3, y4, y5, y6⟩
  refine wpAnyH_take (i := 0) (oi := { dst := some 15, op := Go.Op.load 49 (Go.Operand.tmp 1), type := 49, pos := "tree.go:81", after := #[], guard := none }) (v := ?vq0) rfl (by kernel_rfl) (by kernel_rfl) (by kernel_rfl) (fun _ _ _ h => h) (Or.inl ⟨by rfl, ?hq0⟩) (by assumption) ?_
  case hq0 => intro w hSw; (try dsimp only at hSw); go_simp; try (with_reducible rfl)
  (try simp only [Act.put, List.setIfInBounds_toArray, List.set_cons_zero, List.set_cons_succ])
  refine wpAnyH_take (i := 2) (oi := { dst := some 17, op := Go.Op.fieldAddr 49 (Go.Operand.tmp 1) 0, type := 0, pos := "tree.go:81", after := #[], guard := none }) (v := ?vq2) rfl (by kernel_rfl) (by kernel_rfl) (by kernel_rfl) (fun _ _ _ h => h) (Or.inl ⟨by rfl, ?hq2⟩) (by assumption) ?_
  case hq2 => intro w hSw; (try dsimp only at hSw); go_simp; try (with_reducible rfl)
  (try simp only [Act.put, List.setIfInBounds_toArray, List.set_cons_zero, List.set_cons_succ])
  refine wpAnyH_take (i := 3) (oi := { dst := some 18, op := Go.Op.load 46 (Go.Operand.tmp 17), type := 46, pos := "tree.go:81", after := #[{ on := 2, ground := Go.Ground.data }], guard := none }) (v := ?vq3) rfl (by kernel_rfl) (by kernel_rfl) (by kernel_rfl) (fun _ _ _ h => h) (Or.inl ⟨by rfl, ?hq3⟩) (by assumption) ?_
  case hq3 => intro w hSw; (try dsimp only at hSw); go_simp; try (with_reducible rfl)
  (try simp only [Act.put, List.setIfInBounds_toArray, List.set_cons_zero, List.set_cons_succ])
  refine wpAnyH_take (i := 4) (oi := { dst := some 19, op := Go.Op.binOp Go.BinOp.sub 46 (Go.Operand.tmp 18) (Go.Operand.const (Go.Value.int Go.IntKind.i64 1)) 46, type := 46, pos := "tree.go:81", after := #[{ on := 3, ground := Go.Ground.data }], guard := none }) (v := ?vq4) rfl (by kernel_rfl) (by kernel_rfl) (by kernel_rfl) (fun _ _ _ h => h) (Or.inl ⟨by rfl, ?hq4⟩) (by assumption) ?_
  case hq4 => intro w hSw; (try dsimp only at hSw); go_simp; try (with_reducible rfl)
  (try simp only [Act.put, List.setIfInBounds_toArray, List.set_cons_zero, List.set_cons_succ])
  refine wpAnyH_take (i := 5) (oi := { dst := some 20, op := Go.Op.indexAddr 114 (Go.Operand.global 0) (Go.Operand.tmp 19), type := 0, pos := "tree.go:81", after := #[{ on := 4, ground := Go.Ground.data }], guard := none }) (v := ?vq5) rfl (by kernel_rfl) (by kernel_rfl) (by kernel_rfl) (fun _ _ _ h => h) (Or.inl ⟨by rfl, ?hq5⟩) (by assumption) ?_
  case hq5 => intro w hSw; (try dsimp only at hSw); go_simp; try (with_reducible rfl)
  (try simp only [Act.put, List.setIfInBounds_toArray, List.set_cons_zero, List.set_cons_succ])
  refine wpAnyH_take (i := 6) (oi := { dst := some 21, op := Go.Op.load 9 (Go.Operand.tmp 20), type := 9, pos := "tree.go:81", after := #[{ on := 5, ground := Go.Ground.data }], guard := none }) (v := ?vq6) rfl (by kernel_rfl) (by kernel_rfl) (by kernel_rfl) (fun _ _ _ h => h) (Or.inl ⟨by rfl, ?hq6⟩) (by assumption) ?_
  case hq6 => intro w hSw; (try dsimp only at hSw); go_simp; try (with_reducible rfl)
  (try simp only [Act.put, List.setIfInBounds_toArray, List.set_cons_zero, List.set_cons_succ])
  refine wpAnyH_take (i := 8) (oi := { dst := some 23, op := Go.Op.load 49 (Go.Operand.tmp 1), type := 49, pos := "tree.go:81", after := #[], guard := none }) (v := ?vq8) rfl (by kernel_rfl) (by kernel_rfl) (by kernel_rfl) (fun _ _ _ h => h) (Or.inl ⟨by rfl, ?hq8⟩) (by assumption) ?_
  case hq8 => intro w hSw; (try dsimp only at hSw); go_simp; try (with_reducible rfl)
  (try simp only [Act.put, List.setIfInBounds_toArray, List.set_cons_zero, List.set_cons_succ])
  refine wpAnyH_ready (rs := [1]) (by kernel_rfl) (by simp) ?_
  refine AllReadyH.cons (o := { dst := some 16, op := Go.Op.call { callee := Go.Callee.value (Go.Operand.func 56), args := #[Go.Operand.tmp 15, Go.Operand.const (Go.Value.int Go.IntKind.i64 0)], argTypes := #[49, 3] }, type := 9, pos := "tree.go:81", after := #[{ on := 0, ground := Go.Ground.data }], guard := none }) rfl (fun K hK => ?_) AllReadyH.nil
  go_simp
  (go_at_call 56; refine (hc0.out W0.drew HB.out.drew).mono ?_; rintro e w2 ⟨rfl, hb2'⟩; have hb2 := below_undrew hb2'; obtain ⟨z0, z1, z2, z3, z4, z5, z6⟩ := HQ.out w2 hb2; have HB2 := Lib.hid (HB.out.trans (hb2.mono HB.out.size)); have HK2 := Lib.hid hb2; clear hb2' hb2)
  refine hK.out _ _ ?_ (fun hHeld => ?_)
  · exact ⟨z0, z1, z2, z3, z4, z5, z6⟩
  clear hK K
  (try simp only [Act.put, List.setIfInBounds_toArray, List.set_cons_zero, List.set_cons_succ])
  refine wpAnyH_take (i := 7) (oi := { dst := some 22, op := Go.Op.binOp Go.BinOp.add 9 (Go.Operand.tmp 16) (Go.Operand.tmp 21) 9, type := 9, pos := "tree.go:81", after := #[{ on := 1, ground := Go.Ground.data }, { on := 6, ground := Go.Ground.data }], guard := none }) (v := ?vq7) rfl (by kernel_rfl) (by kernel_rfl) (by kernel_rfl) (fun _ _ _ h => h) (Or.inl ⟨by rfl, ?hq7⟩) (by assumption) ?_
  case hq7 => intro w hSw; (try dsimp only at hSw); go_simp; rw [if_neg (by omega)]
  (try simp only [Act.put, List.setIfInBounds_toArray, List.set_cons_zero, List.set_cons_succ])
  refine wpAnyH_ready (rs := [9]) (by kernel_rfl) (by simp) ?_
  refine AllReadyH.cons (o := { dst := some 24, op := Go.Op.call { callee := Go.Callee.value (Go.Operand.func 56), args := #[Go.Operand.tmp 23, Go.Operand.const (Go.Value.int Go.IntKind.i64 1)], argTypes := #[49, 3] }, type := 9, pos := "tree.go:81", after := #[{ on := 8, ground := Go.Ground.data }, { on := 1, ground := Go.Ground.chain }], guard := none }) rfl (fun K hK => ?_) AllReadyH.nil
  go_simp
  (go_at_call 56; refine (hc1.out w2 HB2.out).mono ?_; rintro e w3 ⟨rfl, hb3⟩; have hk3 := HK2.out.trans (hb3.mono HK2.out.size); obtain ⟨u0, u1, u2, u3, u4, u5, u6⟩ := HQ.out w3 hk3; have HB3 := Lib.hid (HB2.out.trans (hb3.mono HB2.out.size)); clear hb3 hk3)
  refine hK.out _ _ ?_ (fun hHeld => ?_)
  · exact ⟨u0, u1, u2, u3, u4, u5, u6⟩
  clear hK K
  (try simp only [Act.put, List.setIfInBounds_toArray, List.set_cons_zero, List.set_cons_succ])
  refine wpAnyH_take (i := 10) (oi := { dst := some 25, op := Go.Op.binOp Go.BinOp.add 9 (Go.Operand.tmp 22) (Go.Operand.tmp 24) 9, type := 9, pos := "tree.go:81", after := #[{ on := 7, ground := Go.Ground.data }, { on := 9, ground := Go.Ground.data }], guard := none }) (v := ?vq10) rfl (by kernel_rfl) (by kernel_rfl) (by kernel_rfl) (fun _ _ _ h => h) (Or.inl ⟨by rfl, ?hq10⟩) (by assumption) ?_
  case hq10 => intro w hSw; (try dsimp only at hSw); go_simp; rw [if_neg (by omega)]
  (try simp only [Act.put, List.setIfInBounds_toArray, List.set_cons_zero, List.set_cons_succ])
  refine wpAnyH_take (i := 11) (oi := { dst := some 2, op := Go.Op.assign (Go.Operand.tmp 25), type := 9, pos := "tree.go:81", after := #[{ on := 10, ground := Go.Ground.data }, { on := 9, ground := Go.Ground.chain }, { on := 0, ground := Go.Ground.phase }, { on := 1, ground := Go.Ground.phase }, { on := 2, ground := Go.Ground.phase }, { on := 3, ground := Go.Ground.phase }, { on := 4, ground := Go.Ground.phase }, { on := 5, ground := Go.Ground.phase }, { on := 6, ground := Go.Ground.phase }, { on := 7, ground := Go.Ground.phase }, { on := 8, ground := Go.Ground.phase }, { on := 9, ground := Go.Ground.phase }, { on := 10, ground := Go.Ground.phase }], guard := none }) (v := ?vq11) rfl (by kernel_rfl) (by kernel_rfl) (by kernel_rfl) (fun _ _ _ h => h) (Or.inl ⟨by rfl, ?hq11⟩) (by assumption) ?_
  case hq11 => intro w hSw; (try dsimp only at hSw); go_simp; try (with_reducible rfl)
  (try simp only [Act.put, List.setIfInBounds_toArray, List.set_cons_zero, List.set_cons_succ])
  refine wpAnyH_done (by kernel_rfl) ?_ _
  go_wp2
  go_ret
  exact ⟨by rw [← HR.out]; first | done | rfl, HB3.out⟩

set_option maxRecDepth 100000 in
set_option maxHeartbeats 4000000 in
theorem set_2 (rh1 : Hd) (ro1 : List Op5) (pn1 : ByteArray) (ph1 : Hd) (pp1 : List ByteArray) (rn1 rr1 : ByteArray) (w : World) (hA : RvH w ⟨2, rh1, ro1, ⟨pn1, ph1, pp1⟩, rn1, rr1⟩) (hV : Vz w) (hlen : (setT ⟨2, rh1, ro1, ⟨pn1, ph1, pp1⟩, rn1, rr1⟩).length ≤ 100000000000000) : Calls Tryz.prog 19 #[rvV ⟨2, rh1, ro1, ⟨pn1, ph1, pp1⟩, rn1, rr1⟩] w fun e w' => e = .returned (.string (strB (setT ⟨2, rh1, ro1, ⟨pn1, ph1, pp1⟩, rn1, rr1⟩))) ∧ Below w.heap.size w w' := by
  obtain ⟨R, hR⟩ : ∃ R, R = setT ⟨2, rh1, ro1, ⟨pn1, ph1, pp1⟩, rn1, rr1⟩ := ⟨_, rfl⟩
  rw [← hR] at hlen ⊢
  have hb0 := alloc_below w (.cells #[.int .i64 2, .slice rh1.oa ro1.length rh1.cap, .string pn1, .slice ph1.oa pp1.length ph1.cap, .string rn1, .string rr1] 49)
  replace hR : R = operandT ⟨2, rh1, ro1, ⟨pn1, ph1, pp1⟩, rn1, rr1⟩ 0 ++ [32, 45, 32] ++ operandT ⟨2, rh1, ro1, ⟨pn1, ph1, pp1⟩, rn1, rr1⟩ 1 := hR
  have hl0 : (operandT ⟨2, rh1, ro1, ⟨pn1, ph1, pp1⟩, rn1, rr1⟩ 0).length ≤ 100000000000000 := by rw [hR] at hlen; simp only [List.length_append] at hlen; omega
  have hl1 : (operandT ⟨2, rh1, ro1, ⟨pn1, ph1, pp1⟩, rn1, rr1⟩ 1).length ≤ 100000000000000 := by rw [hR] at hlen; simp only [List.length_append] at hlen; omega
  obtain ⟨W0, hW0⟩ : ∃ W, W = (w.alloc (.cells #[.int .i64 2, .slice rh1.oa ro1.length rh1.cap, .string pn1, .slice ph1.oa pp1.length ph1.cap, .string rn1, .string rr1] 49)) := ⟨_, rfl⟩
  have hx0 : W0.heap[w.heap.size]? = some (.cells #[.int .i64 2, .slice rh1.oa ro1.length rh1.cap, .string pn1, .slice ph1.oa pp1.length ph1.cap, .string rn1, .string rr1] 49) := by rw [hW0, heap_alloc_new]
  have hb1 : Below w.heap.size w W0 := by rw [hW0]; exact alloc_below _ _
  have hc0 := fun W (hW : Below w.heap.size w W) => operand_any ⟨2, rh1, ro1, ⟨pn1, ph1, pp1⟩, rn1, rr1⟩ 0 (by omega) W (hA.below hW) (hV.b hW) hl0
  have hc1 := fun W (hW : Below w.heap.size w W) => operand_any ⟨2, rh1, ro1, ⟨pn1, ph1, pp1⟩, rn1, rr1⟩ 1 (by omega) W (hA.below hW) (hV.b hW) hl1
  obtain ⟨TX, hTX⟩ : ∃ t, t = operandT ⟨2, rh1, ro1, ⟨pn1, ph1, pp1⟩, rn1, rr1⟩ 0 := ⟨_, rfl⟩
  obtain ⟨TY, hTY⟩ : ∃ t, t = operandT ⟨2, rh1, ro1, ⟨pn1, ph1, pp1⟩, rn1, rr1⟩ 1 := ⟨_, rfl⟩
  rw [← hTX] at hc0 hR hl0
  rw [← hTY] at hc1 hR hl1
  have HR := Lib.hid (show strB TX ++ ⟨#[32, 45, 32]⟩ ++ strB TY = strB R by rw [hR, ← strB_append, ← strB_append]; rfl)
  have hz : (strB TX).size ≤ 100000000000000 := by rw [strB_size]; exact hl0
  have hz1 : (strB TY).size ≤ 100000000000000 := by rw [strB_size]; exact hl1
  simp only [rvV, rvC, plC, List.cons_append, List.nil_append] at hc0 hc1 ⊢
  replace hc0 := Lib.hid hc0
  replace hc1 := Lib.hid hc1
  have hsg : ∀ w', Below w.heap.size w w' → w'.cell? ⟨0, 1, none⟩ = some (.string ⟨#[32, 45, 32]⟩) := fun w' h => (hV.b h).signs 1 _ rfl
  have hqq : ∀ w', Below W0.heap.size W0 w' → w'.cell? ⟨w.heap.size, 0, none⟩ = some (.int .i64 2) ∧ w'.cell? ⟨w.heap.size, 1, none⟩ = some (.slice rh1.oa ro1.length rh1.cap) ∧ w'.cell? ⟨w.heap.size, 2, none⟩ = some (.string pn1) ∧ w'.cell? ⟨w.heap.size, 3, none⟩ = some (.slice ph1.oa pp1.length ph1.cap) ∧ w'.cell? ⟨w.heap.size, 4, none⟩ = some (.string rn1) ∧ w'.cell? ⟨w.heap.size, 5, none⟩ = some (.string rr1) ∧ w'.cell? ⟨0, 1, none⟩ = some (.string ⟨#[32, 45, 32]⟩) := fun w' h => by
    have h1 := keepB hx0 h
    refine ⟨?_, ?_, ?_, ?_, ?_, ?_, hsg w' (hb1.trans (h.mono hb1.size))⟩ <;> simp [World.cell?, h1]
  obtain ⟨y0, y1, y2, y3, y4, y5, y6⟩ := hqq W0 (Below.refl _ _)
  have HQ := Lib.hid hqq
  have HB := Lib.hid hb1
  clear hTX hTY hR hl0 hl1 hb0 hb1 hA hV hlen hx0 hqq hsg
  go_enter Tryz.func19, Tryz.ntmps19
  go_upto_region 9 with fail
  rw [← hW0]
  clear hW0
  have hwr : IntKind.i64.wrap 1 = 1 := by decide +kernel
  have hwr2 : IntKind.i64.wrap (2 - 1) = 1 := by decide +kernel
  refine wp_region_held_drew (S := (fun w' => w'.cell? ⟨w.heap.size, 0, none⟩ = some (.int .i64 2) ∧ w'.cell? ⟨w.heap.size, 1, none⟩ = some (.slice rh1.oa ro1.length rh1.cap) ∧ w'.cell? ⟨w.heap.size, 2, none⟩ = some (.string pn1) ∧ w'.cell? ⟨w.heap.size, 3, none⟩ = some (.slice ph1.oa pp1.length ph1.cap) ∧ w'.cell? ⟨w.heap.size, 4, none⟩ = some (.string rn1) ∧ w'.cell? ⟨w.heap.size, 5, none⟩ = some (.string rr1) ∧ w'.cell? ⟨0, 1, none⟩ = some (.string ⟨#[32, 45, 32]⟩))) (by kernel_rfl) ?_ (fun hHeld => ?_)
  · exact ⟨y0, y1, y2, y3, y4, y5, y6⟩
  refine wpAnyH_take (i := 0) (oi := { dst := some 15, op := Go.Op.load 49 (Go.Operand.tmp 1), type := 49, pos := "tree.go:81", after := #[], guard := none }) (v := ?vq0) rfl (by kernel_rfl) (by kernel_rfl) (by kernel_rfl) (fun _ _ _ h => h) (Or.inl ⟨by rfl, ?hq0⟩) (by assumption) ?_
  case hq0 => intro w hSw; (try dsimp only at hSw); go_simp; try (with_reducible rfl)
  (try simp only [Act.put, List.setIfInBounds_toArray, List.set_cons_zero, List.set_cons_succ])
  refine wpAnyH_take (i := 2) (oi := { dst := some 17, op := Go.Op.fieldAddr 49 (Go.Operand.tmp 1) 0, type := 0, pos := "tree.go:81", after := #[], guard := none }) (v := ?vq2) rfl (by kernel_rfl) (by kernel_rfl) (by kernel_rfl) (fun _ _ _ h => h) (Or.inl ⟨by rfl, ?hq2⟩) (by assumption) ?_
  case hq2 => intro w hSw; (try dsimp only at hSw); go_simp; try (with_reducible rfl)
  (try simp only [Act.put, List.setIfInBounds_toArray, List.set_cons_zero, List.set_cons_succ])
  refine wpAnyH_take (i := 3) (oi := { dst := some 18, op := Go.Op.load 46 (Go.Operand.tmp 17), type := 46, pos := "tree.go:81", after := #[{ on := 2, ground := Go.Ground.data }], guard := none }) (v := ?vq3) rfl (by kernel_rfl) (by kernel_rfl) (by kernel_rfl) (fun _ _ _ h => h) (Or.inl ⟨by rfl, ?hq3⟩) (by assumption) ?_
  case hq3 => intro w hSw; (try dsimp only at hSw); go_simp; try (with_reducible rfl)
  (try simp only [Act.put, List.setIfInBounds_toArray, List.set_cons_zero, List.set_cons_succ])
  refine wpAnyH_take (i := 4) (oi := { dst := some 19, op := Go.Op.binOp Go.BinOp.sub 46 (Go.Operand.tmp 18) (Go.Operand.const (Go.Value.int Go.IntKind.i64 1)) 46, type := 46, pos := "tree.go:81", after := #[{ on := 3, ground := Go.Ground.data }], guard := none }) (v := ?vq4) rfl (by kernel_rfl) (by kernel_rfl) (by kernel_rfl) (fun _ _ _ h => h) (Or.inl ⟨by rfl, ?hq4⟩) (by assumption) ?_
  case hq4 => intro w hSw; (try dsimp only at hSw); go_simp; try (with_reducible rfl)
  (try simp only [Act.put, List.setIfInBounds_toArray, List.set_cons_zero, List.set_cons_succ])
  refine wpAnyH_take (i := 5) (oi := { dst := some 20, op := Go.Op.indexAddr 114 (Go.Operand.global 0) (Go.Operand.tmp 19), type := 0, pos := "tree.go:81", after := #[{ on := 4, ground := Go.Ground.data }], guard := none }) (v := ?vq5) rfl (by kernel_rfl) (by kernel_rfl) (by kernel_rfl) (fun _ _ _ h => h) (Or.inl ⟨by rfl, ?hq5⟩) (by assumption) ?_
  case hq5 => intro w hSw; (try dsimp only at hSw); go_simp; try (with_reducible rfl)
  (try simp only [Act.put, List.setIfInBounds_toArray, List.set_cons_zero, List.set_cons_succ])
  refine wpAnyH_take (i := 6) (oi := { dst := some 21, op := Go.Op.load 9 (Go.Operand.tmp 20), type := 9, pos := "tree.go:81", after := #[{ on := 5, ground := Go.Ground.data }], guard := none }) (v := ?vq6) rfl (by kernel_rfl) (by kernel_rfl) (by kernel_rfl) (fun _ _ _ h => h) (Or.inl ⟨by rfl, ?hq6⟩) (by assumption) ?_
  case hq6 => intro w hSw; (try dsimp only at hSw); go_simp; try (with_reducible rfl)
  (try simp only [Act.put, List.setIfInBounds_toArray, List.set_cons_zero, List.set_cons_succ])
  refine wpAnyH_take (i := 8) (oi := { dst := some 23, op := Go.Op.load 49 (Go.Operand.tmp 1), type := 49, pos := "tree.go:81", after := #[], guard := none }) (v := ?vq8) rfl (by kernel_rfl) (by kernel_rfl) (by kernel_rfl) (fun _ _ _ h => h) (Or.inl ⟨by rfl, ?hq8⟩) (by assumption) ?_
  case hq8 => intro w hSw; (try dsimp only at hSw); go_simp; try (with_reducible rfl)
  (try simp only [Act.put, List.setIfInBounds_toArray, List.set_cons_zero, List.set_cons_succ])
  refine wpAnyH_ready (rs := [1]) (by kernel_rfl) (by simp) ?_
  refine AllReadyH.cons (o := { dst := some 16, op := Go.Op.call { callee := Go.Callee.value (Go.Operand.func 56), args := #[Go.Operand.tmp 15, Go.Operand.const (Go.Value.int Go.IntKind.i64 0)], argTypes := #[49, 3] }, type := 9, pos := "tree.go:81", after := #[{ on := 0, ground := Go.Ground.data }], guard := none }) rfl (fun K hK => ?_) AllReadyH.nil
  go_simp
  (go_at_call 56; refine (hc0.out W0.drew HB.out.drew).mono ?_; rintro e w2 ⟨rfl, hb2'⟩; have hb2 := below_undrew hb2'; obtain ⟨z0, z1, z2, z3, z4, z5, z6⟩ := HQ.out w2 hb2; have HB2 := Lib.hid (HB.out.trans (hb2.mono HB.out.size)); have HK2 := Lib.hid hb2; clear hb2' hb2)
  refine hK.out _ _ ?_ (fun hHeld => ?_)
  · exact ⟨z0, z1, z2, z3, z4, z5, z6⟩
  clear hK K
  (try simp only [Act.put, List.setIfInBounds_toArray, List.set_cons_zero, List.set_cons_succ])
  refine wpAnyH_take (i := 7) (oi := { dst := some 22, op := Go.Op.binOp Go.BinOp.add 9 (Go.Operand.tmp 16) (Go.Operand.tmp 21) 9, type := 9, pos := "tree.go:81", after := #[{ on := 1, ground := Go.Ground.data }, { on := 6, ground := Go.Ground.data }], guard := none }) (v := ?vq7) rfl (by kernel_rfl) (by kernel_rfl) (by kernel_rfl) (fun _ _ _ h => h) (Or.inl ⟨by rfl, ?hq7⟩) (by assumption) ?_
  case hq7 => intro w hSw; (try dsimp only at hSw); go_simp; rw [if_neg (by omega)]
  (try simp only [Act.put, List.setIfInBounds_toArray, List.set_cons_zero, List.set_cons_succ])
  refine wpAnyH_ready (rs := [9]) (by kernel_rfl) (by simp) ?_
  refine AllReadyH.cons (o := { dst := some 24, op := Go.Op.call { callee := Go.Callee.value (Go.Operand.func 56), args := #[Go.Operand.tmp 23, Go.Operand.const (Go.Value.int Go.IntKind.i64 1)], argTypes := #[49, 3] }, type := 9, pos := "tree.go:81", after := #[{ on := 8, ground := Go.Ground.data }, { on := 1, ground := Go.Ground.chain }], guard := none }) rfl (fun K hK => ?_) AllReadyH.nil
  go_simp
  (go_at_call 56; refine (hc1.out w2 HB2.out).mono ?_; rintro e w3 ⟨rfl, hb3⟩; have hk3 := HK2.out.trans (hb3.mono HK2.out.size); obtain ⟨u0, u1, u2, u3, u4, u5, u6⟩ := HQ.out w3 hk3; have HB3 := Lib.hid (HB2.out.trans (hb3.mono HB2.out.size)); clear hb3 hk3)
  refine hK.out _ _ ?_ (fun hHeld => ?_)
  · exact ⟨u0, u1, u2, u3, u4, u5, u6⟩
  clear hK K
  (try simp only [Act.put, List.setIfInBounds_toArray, List.set_cons_zero, List.set_cons_succ])
  refine wpAnyH_take (i := 10) (oi := { dst := some 25, op := Go.Op.binOp Go.BinOp.add 9 (Go.Operand.tmp 22) (Go.Operand.tmp 24) 9, type := 9, pos := "tree.go:81", after := #[{ on := 7, ground := Go.Ground.data }, { on := 9, ground := Go.Ground.data }], guard := none }) (v := ?vq10) rfl (by kernel_rfl) (by kernel_rfl) (by kernel_rfl) (fun _ _ _ h => h) (Or.inl ⟨by rfl, ?hq10⟩) (by assumption) ?_
  case hq10 => intro w hSw; (try dsimp only at hSw); go_simp; rw [if_neg (by omega)]
  (try simp only [Act.put, List.setIfInBounds_toArray, List.set_cons_zero, List.set_cons_succ])
  refine wpAnyH_take (i := 11) (oi := { dst := some 2, op := Go.Op.assign (Go.Operand.tmp 25), type := 9, pos := "tree.go:81", after := #[{ on := 10, ground := Go.Ground.data }, { on := 9, ground := Go.Ground.chain }, { on := 0, ground := Go.Ground.phase }, { on := 1, ground := Go.Ground.phase }, { on := 2, ground := Go.Ground.phase }, { on := 3, ground := Go.Ground.phase }, { on := 4, ground := Go.Ground.phase }, { on := 5, ground := Go.Ground.phase }, { on := 6, ground := Go.Ground.phase }, { on := 7, ground := Go.Ground.phase }, { on := 8, ground := Go.Ground.phase }, { on := 9, ground := Go.Ground.phase }, { on := 10, ground := Go.Ground.phase }], guard := none }) (v := ?vq11) rfl (by kernel_rfl) (by kernel_rfl) (by kernel_rfl) (fun _ _ _ h => h) (Or.inl ⟨by rfl, ?hq11⟩) (by assumption) ?_
  case hq11 => intro w hSw; (try dsimp only at hSw); go_simp; try (with_reducible rfl)
  (try simp only [Act.put, List.setIfInBounds_toArray, List.set_cons_zero, List.set_cons_succ])
  refine wpAnyH_done (by kernel_rfl) ?_ _
  go_wp2
  go_ret
  exact ⟨by rw [← HR.out]; first | done | rfl, HB3.out⟩

set_option maxRecDepth 100000 in
set_option maxHeartbeats 4000000 in
theorem set_3 (rh1 : Hd) (ro1 : List Op5) (pn1 : ByteArray) (ph1 : Hd) (pp1 : List ByteArray) (rn1 rr1 : ByteArray) (w : World) (hA : RvH w ⟨3, rh1, ro1, ⟨pn1, ph1, pp1⟩, rn1, rr1⟩) (hV : Vz w) (hlen : (setT ⟨3, rh1, ro1, ⟨pn1, ph1, pp1⟩, rn1, rr1⟩).length ≤ 100000000000000) : Calls Tryz.prog 19 #[rvV ⟨3, rh1, ro1, ⟨pn1, ph1, pp1⟩, rn1, rr1⟩] w fun e w' => e = .returned (.string (strB (setT ⟨3, rh1, ro1, ⟨pn1, ph1, pp1⟩, rn1, rr1⟩))) ∧ Below w.heap.size w w' := by
  obtain ⟨R, hR⟩ : ∃ R, R = setT ⟨3, rh1, ro1, ⟨pn1, ph1, pp1⟩, rn1, rr1⟩ := ⟨_, rfl⟩
  rw [← hR] at hlen ⊢
  have hb0 := alloc_below w (.cells #[.int .i64 3, .slice rh1.oa ro1.length rh1.cap, .string pn1, .slice ph1.oa pp1.length ph1.cap, .string rn1, .string rr1] 49)
  replace hR : R = operandT ⟨3, rh1, ro1, ⟨pn1, ph1, pp1⟩, rn1, rr1⟩ 0 ++ [32, 42, 32] ++ operandT ⟨3, rh1, ro1, ⟨pn1, ph1, pp1⟩, rn1, rr1⟩ 1 := hR
  have hl0 : (operandT ⟨3, rh1, ro1, ⟨pn1, ph1, pp1⟩, rn1, rr1⟩ 0).length ≤ 100000000000000 := by rw [hR] at hlen; simp only [List.length_append] at hlen; omega
  have hl1 : (operandT ⟨3, rh1, ro1, ⟨pn1, ph1, pp1⟩, rn1, rr1⟩ 1).length ≤ 100000000000000 := by rw [hR] at hlen; simp only [List.length_append] at hlen; omega
  obtain ⟨W0, hW0⟩ : ∃ W, W = (w.alloc (.cells #[.int .i64 3, .slice rh1.oa ro1.length rh1.cap, .string pn1, .slice ph1.oa pp1.length ph1.cap, .string rn1, .string rr1] 49)) := ⟨_, rfl⟩
  have hx0 : W0.heap[w.heap.size]? = some (.cells #[.int .i64 3, .slice rh1.oa ro1.length rh1.cap, .string pn1, .slice ph1.oa pp1.length ph1.cap, .string rn1, .string rr1] 49) := by rw [hW0, heap_alloc_new]
  have hb1 : Below w.heap.size w W0 := by rw [hW0]; exact alloc_below _ _
  have hc0 := fun W (hW : Below w.heap.size w W) => operand_any ⟨3, rh1, ro1, ⟨pn1, ph1, pp1⟩, rn1, rr1⟩ 0 (by omega) W (hA.below hW) (hV.b hW) hl0
  have hc1 := fun W (hW : Below w.heap.size w W) => operand_any ⟨3, rh1, ro1, ⟨pn1, ph1, pp1⟩, rn1, rr1⟩ 1 (by omega) W (hA.below hW) (hV.b hW) hl1
  obtain ⟨TX, hTX⟩ : ∃ t, t = operandT ⟨3, rh1, ro1, ⟨pn1, ph1, pp1⟩, rn1, rr1⟩ 0 := ⟨_, rfl⟩
  obtain ⟨TY, hTY⟩ : ∃ t, t = operandT ⟨3, rh1, ro1, ⟨pn1, ph1, pp1⟩, rn1, rr1⟩ 1 := ⟨_, rfl⟩
  rw [← hTX] at hc0 hR hl0
  rw [← hTY] at hc1 hR hl1
  have HR := Lib.hid (show strB TX ++ ⟨#[32, 42, 32]⟩ ++ strB TY = strB R by rw [hR, ← strB_append, ← strB_append]; rfl)
  have hz : (strB TX).size ≤ 100000000000000 := by rw [strB_size]; exact hl0
  have hz1 : (strB TY).size ≤ 100000000000000 := by rw [strB_size]; exact hl1
  simp only [rvV, rvC, plC, List.cons_append, List.nil_append] at hc0 hc1 ⊢
  replace hc0 := Lib.hid hc0
  replace hc1 := Lib.hid hc1
  have hsg : ∀ w', Below w.heap.size w w' → w'.cell? ⟨0, 2, none⟩ = some (.string ⟨#[32, 42, 32]⟩) := fun w' h => (hV.b h).signs 2 _ rfl
  have hqq : ∀ w', Below W0.heap.size W0 w' → w'.cell? ⟨w.heap.size, 0, none⟩ = some (.int .i64 3) ∧ w'.cell? ⟨w.heap.size, 1, none⟩ = some (.slice rh1.oa ro1.length rh1.cap) ∧ w'.cell? ⟨w.heap.size, 2, none⟩ = some (.string pn1) ∧ w'.cell? ⟨w.heap.size, 3, none⟩ = some (.slice ph1.oa pp1.length ph1.cap) ∧ w'.cell? ⟨w.heap.size, 4, none⟩ = some (.string rn1) ∧ w'.cell? ⟨w.heap.size, 5, none⟩ = some (.string rr1) ∧ w'.cell? ⟨0, 2, none⟩ = some (.string ⟨#[32, 42, 32]⟩) := fun w' h => by
    have h1 := keepB hx0 h
    refine ⟨?_, ?_, ?_, ?_, ?_, ?_, hsg w' (hb1.trans (h.mono hb1.size))⟩ <;> simp [World.cell?, h1]
  obtain ⟨y0, y1, y2, y3, y4, y5, y6⟩ := hqq W0 (Below.refl _ _)
  have HQ := Lib.hid hqq
  have HB := Lib.hid hb1
  clear hTX hTY hR hl0 hl1 hb0 hb1 hA hV hlen hx0 hqq hsg
  go_enter Tryz.func19, Tryz.ntmps19
  go_upto_region 9 with fail
  rw [← hW0]
  clear hW0
  have hwr : IntKind.i64.wrap 2 = 2 := by decide +kernel
  have hwr2 : IntKind.i64.wrap (3 - 1) = 2 := by decide +kernel
  refine wp_region_held_drew (S := (fun w' => w'.cell? ⟨w.heap.size, 0, none⟩ = some (.int .i64 3) ∧ w'.cell? ⟨w.heap.size, 1, none⟩ = some (.slice rh1.oa ro1.length rh1.cap) ∧ w'.cell? ⟨w.heap.size, 2, none⟩ = some (.string pn1) ∧ w'.cell? ⟨w.heap.size, 3, none⟩ = some (.slice ph1.oa pp1.length ph1.cap) ∧ w'.cell? ⟨w.heap.size, 4, none⟩ = some (.string rn1) ∧ w'.cell? ⟨w.heap.size, 5, none⟩ = some (.string rr1) ∧ w'.cell? ⟨0, 2, none⟩ = some (.string ⟨#[32, 42, 32]⟩))) (by kernel_rfl) ?_ (fun hHeld => ?_)
  · exact ⟨y0, y1, y2, y3, y4, y5, y6⟩
  refine wpAnyH_take (i := 0) (oi := { dst := some 15, op := Go.Op.load 49 (Go.Operand.tmp 1), type := 49, pos := "tree.go:81", after := #[], guard := none }) (v := ?vq0) rfl (by kernel_rfl) (by kernel_rfl) (by kernel_rfl) (fun _ _ _ h => h) (Or.inl ⟨by rfl, ?hq0⟩) (by assumption) ?_
  case hq0 => intro w hSw; (try dsimp only at hSw); go_simp; try (with_reducible rfl)
  (try simp only [Act.put, List.setIfInBounds_toArray, List.set_cons_zero, List.set_cons_succ])
  refine wpAnyH_take (i := 2) (oi := { dst := some 17, op := Go.Op.fieldAddr 49 (Go.Operand.tmp 1) 0, type := 0, pos := "tree.go:81", after := #[], guard := none }) (v := ?vq2) rfl (by kernel_rfl) (by kernel_rfl) (by kernel_rfl) (fun _ _ _ h => h) (Or.inl ⟨by rfl, ?hq2⟩) (by assumption) ?_
  case hq2 => intro w hSw; (try dsimp only at hSw); go_simp; try (with_reducible rfl)
  (try simp only [Act.put, List.setIfInBounds_toArray, List.set_cons_zero, List.set_cons_succ])
  refine wpAnyH_take (i := 3) (oi := { dst := some 18, op := Go.Op.load 46 (Go.Operand.tmp 17), type := 46, pos := "tree.go:81", after := #[{ on := 2, ground := Go.Ground.data }], guard := none }) (v := ?vq3) rfl (by kernel_rfl) (by kernel_rfl) (by kernel_rfl) (fun _ _ _ h => h) (Or.inl ⟨by rfl, ?hq3⟩) (by assumption) ?_
  case hq3 => intro w hSw; (try dsimp only at hSw); go_simp; try (with_reducible rfl)
  (try simp only [Act.put, List.setIfInBounds_toArray, List.set_cons_zero, List.set_cons_succ])
  refine wpAnyH_take (i := 4) (oi := { dst := some 19, op := Go.Op.binOp Go.BinOp.sub 46 (Go.Operand.tmp 18) (Go.Operand.const (Go.Value.int Go.IntKind.i64 1)) 46, type := 46, pos := "tree.go:81", after := #[{ on := 3, ground := Go.Ground.data }], guard := none }) (v := ?vq4) rfl (by kernel_rfl) (by kernel_rfl) (by kernel_rfl) (fun _ _ _ h => h) (Or.inl ⟨by rfl, ?hq4⟩) (by assumption) ?_
  case hq4 => intro w hSw; (try dsimp only at hSw); go_simp; try (with_reducible rfl)
  (try simp only [Act.put, List.setIfInBounds_toArray, List.set_cons_zero, List.set_cons_succ])
  refine wpAnyH_take (i := 5) (oi := { dst := some 20, op := Go.Op.indexAddr 114 (Go.Operand.global 0) (Go.Operand.tmp 19), type := 0, pos := "tree.go:81", after := #[{ on := 4, ground := Go.Ground.data }], guard := none }) (v := ?vq5) rfl (by kernel_rfl) (by kernel_rfl) (by kernel_rfl) (fun _ _ _ h => h) (Or.inl ⟨by rfl, ?hq5⟩) (by assumption) ?_
  case hq5 => intro w hSw; (try dsimp only at hSw); go_simp; try (with_reducible rfl)
  (try simp only [Act.put, List.setIfInBounds_toArray, List.set_cons_zero, List.set_cons_succ])
  refine wpAnyH_take (i := 6) (oi := { dst := some 21, op := Go.Op.load 9 (Go.Operand.tmp 20), type := 9, pos := "tree.go:81", after := #[{ on := 5, ground := Go.Ground.data }], guard := none }) (v := ?vq6) rfl (by kernel_rfl) (by kernel_rfl) (by kernel_rfl) (fun _ _ _ h => h) (Or.inl ⟨by rfl, ?hq6⟩) (by assumption) ?_
  case hq6 => intro w hSw; (try dsimp only at hSw); go_simp; try (with_reducible rfl)
  (try simp only [Act.put, List.setIfInBounds_toArray, List.set_cons_zero, List.set_cons_succ])
  refine wpAnyH_take (i := 8) (oi := { dst := some 23, op := Go.Op.load 49 (Go.Operand.tmp 1), type := 49, pos := "tree.go:81", after := #[], guard := none }) (v := ?vq8) rfl (by kernel_rfl) (by kernel_rfl) (by kernel_rfl) (fun _ _ _ h => h) (Or.inl ⟨by rfl, ?hq8⟩) (by assumption) ?_
  case hq8 => intro w hSw; (try dsimp only at hSw); go_simp; try (with_reducible rfl)
  (try simp only [Act.put, List.setIfInBounds_toArray, List.set_cons_zero, List.set_cons_succ])
  refine wpAnyH_ready (rs := [1]) (by kernel_rfl) (by simp) ?_
  refine AllReadyH.cons (o := { dst := some 16, op := Go.Op.call { callee := Go.Callee.value (Go.Operand.func 56), args := #[Go.Operand.tmp 15, Go.Operand.const (Go.Value.int Go.IntKind.i64 0)], argTypes := #[49, 3] }, type := 9, pos := "tree.go:81", after := #[{ on := 0, ground := Go.Ground.data }], guard := none }) rfl (fun K hK => ?_) AllReadyH.nil
  go_simp
  (go_at_call 56; refine (hc0.out W0.drew HB.out.drew).mono ?_; rintro e w2 ⟨rfl, hb2'⟩; have hb2 := below_undrew hb2'; obtain ⟨z0, z1, z2, z3, z4, z5, z6⟩ := HQ.out w2 hb2; have HB2 := Lib.hid (HB.out.trans (hb2.mono HB.out.size)); have HK2 := Lib.hid hb2; clear hb2' hb2)
  refine hK.out _ _ ?_ (fun hHeld => ?_)
  · exact ⟨z0, z1, z2, z3, z4, z5, z6⟩
  clear hK K
  (try simp only [Act.put, List.setIfInBounds_toArray, List.set_cons_zero, List.set_cons_succ])
  refine wpAnyH_take (i := 7) (oi := { dst := some 22, op := Go.Op.binOp Go.BinOp.add 9 (Go.Operand.tmp 16) (Go.Operand.tmp 21) 9, type := 9, pos := "tree.go:81", after := #[{ on := 1, ground := Go.Ground.data }, { on := 6, ground := Go.Ground.data }], guard := none }) (v := ?vq7) rfl (by kernel_rfl) (by kernel_rfl) (by kernel_rfl) (fun _ _ _ h => h) (Or.inl ⟨by rfl, ?hq7⟩) (by assumption) ?_
  case hq7 => intro w hSw; (try dsimp only at hSw); go_simp; rw [if_neg (by omega)]
  (try simp only [Act.put, List.setIfInBounds_toArray, List.set_cons_zero, List.set_cons_succ])
  refine wpAnyH_ready (rs := [9]) (by kernel_rfl) (by simp) ?_
  refine AllReadyH.cons (o := { dst := some 24, op := Go.Op.call { callee := Go.Callee.value (Go.Operand.func 56), args := #[Go.Operand.tmp 23, Go.Operand.const (Go.Value.int Go.IntKind.i64 1)], argTypes := #[49, 3] }, type := 9, pos := "tree.go:81", after := #[{ on := 8, ground := Go.Ground.data }, { on := 1, ground := Go.Ground.chain }], guard := none }) rfl (fun K hK => ?_) AllReadyH.nil
  go_simp
  (go_at_call 56; refine (hc1.out w2 HB2.out).mono ?_; rintro e w3 ⟨rfl, hb3⟩; have hk3 := HK2.out.trans (hb3.mono HK2.out.size); obtain ⟨u0, u1, u2, u3, u4, u5, u6⟩ := HQ.out w3 hk3; have HB3 := Lib.hid (HB2.out.trans (hb3.mono HB2.out.size)); clear hb3 hk3)
  refine hK.out _ _ ?_ (fun hHeld => ?_)
  · exact ⟨u0, u1, u2, u3, u4, u5, u6⟩
  clear hK K
  (try simp only [Act.put, List.setIfInBounds_toArray, List.set_cons_zero, List.set_cons_succ])
  refine wpAnyH_take (i := 10) (oi := { dst := some 25, op := Go.Op.binOp Go.BinOp.add 9 (Go.Operand.tmp 22) (Go.Operand.tmp 24) 9, type := 9, pos := "tree.go:81", after := #[{ on := 7, ground := Go.Ground.data }, { on := 9, ground := Go.Ground.data }], guard := none }) (v := ?vq10) rfl (by kernel_rfl) (by kernel_rfl) (by kernel_rfl) (fun _ _ _ h => h) (Or.inl ⟨by rfl, ?hq10⟩) (by assumption) ?_
  case hq10 => intro w hSw; (try dsimp only at hSw); go_simp; rw [if_neg (by omega)]
  (try simp only [Act.put, List.setIfInBounds_toArray, List.set_cons_zero, List.set_cons_succ])
  refine wpAnyH_take (i := 11) (oi := { dst := some 2, op := Go.Op.assign (Go.Operand.tmp 25), type := 9, pos := "tree.go:81", after := #[{ on := 10, ground := Go.Ground.data }, { on := 9, ground := Go.Ground.chain }, { on := 0, ground := Go.Ground.phase }, { on := 1, ground := Go.Ground.phase }, { on := 2, ground := Go.Ground.phase }, { on := 3, ground := Go.Ground.phase }, { on := 4, ground := Go.Ground.phase }, { on := 5, ground := Go.Ground.phase }, { on := 6, ground := Go.Ground.phase }, { on := 7, ground := Go.Ground.phase }, { on := 8, ground := Go.Ground.phase }, { on := 9, ground := Go.Ground.phase }, { on := 10, ground := Go.Ground.phase }], guard := none }) (v := ?vq11) rfl (by kernel_rfl) (by kernel_rfl) (by kernel_rfl) (fun _ _ _ h => h) (Or.inl ⟨by rfl, ?hq11⟩) (by assumption) ?_
  case hq11 => intro w hSw; (try dsimp only at hSw); go_simp; try (with_reducible rfl)
  (try simp only [Act.put, List.setIfInBounds_toArray, List.set_cons_zero, List.set_cons_succ])
  refine wpAnyH_done (by kernel_rfl) ?_ _
  go_wp2
  go_ret
  exact ⟨by rw [← HR.out]; first | done | rfl, HB3.out⟩

set_option maxRecDepth 100000 in
set_option maxHeartbeats 4000000 in
theorem set_4 (rh1 : Hd) (ro1 : List Op5) (pn1 : ByteArray) (ph1 : Hd) (pp1 : List ByteArray) (rn1 rr1 : ByteArray) (w : World) (hA : RvH w ⟨4, rh1, ro1, ⟨pn1, ph1, pp1⟩, rn1, rr1⟩) (hV : Vz w) (hlen : (setT ⟨4, rh1, ro1, ⟨pn1, ph1, pp1⟩, rn1, rr1⟩).length ≤ 100000000000000) : Calls Tryz.prog 19 #[rvV ⟨4, rh1, ro1, ⟨pn1, ph1, pp1⟩, rn1, rr1⟩] w fun e w' => e = .returned (.string (strB (setT ⟨4, rh1, ro1, ⟨pn1, ph1, pp1⟩, rn1, rr1⟩))) ∧ Below w.heap.size w w' := by
  obtain ⟨R, hR⟩ : ∃ R, R = setT ⟨4, rh1, ro1, ⟨pn1, ph1, pp1⟩, rn1, rr1⟩ := ⟨_, rfl⟩
  rw [← hR] at hlen ⊢
  have hb0 := alloc_below w (.cells #[.int .i64 4, .slice rh1.oa ro1.length rh1.cap, .string pn1, .slice ph1.oa pp1.length ph1.cap, .string rn1, .string rr1] 49)
  replace hR : R = operandT ⟨4, rh1, ro1, ⟨pn1, ph1, pp1⟩, rn1, rr1⟩ 0 ++ [32, 60, 32] ++ operandT ⟨4, rh1, ro1, ⟨pn1, ph1, pp1⟩, rn1, rr1⟩ 1 := hR
  have hl0 : (operandT ⟨4, rh1, ro1, ⟨pn1, ph1, pp1⟩, rn1, rr1⟩ 0).length ≤ 100000000000000 := by rw [hR] at hlen; simp only [List.length_append] at hlen; omega
  have hl1 : (operandT ⟨4, rh1, ro1, ⟨pn1, ph1, pp1⟩, rn1, rr1⟩ 1).length ≤ 100000000000000 := by rw [hR] at hlen; simp only [List.length_append] at hlen; omega
  obtain ⟨W0, hW0⟩ : ∃ W, W = (w.alloc (.cells #[.int .i64 4, .slice rh1.oa ro1.length rh1.cap, .string pn1, .slice ph1.oa pp1.length ph1.cap, .string rn1, .string rr1] 49)) := ⟨_, rfl⟩
  have hx0 : W0.heap[w.heap.size]? = some (.cells #[.int .i64 4, .slice rh1.oa ro1.length rh1.cap, .string pn1, .slice ph1.oa pp1.length ph1.cap, .string rn1, .string rr1] 49) := by rw [hW0, heap_alloc_new]
  have hb1 : Below w.heap.size w W0 := by rw [hW0]; exact alloc_below _ _
  have hc0 := fun W (hW : Below w.heap.size w W) => operand_any ⟨4, rh1, ro1, ⟨pn1, ph1, pp1⟩, rn1, rr1⟩ 0 (by omega) W (hA.below hW) (hV.b hW) hl0
  have hc1 := fun W (hW : Below w.heap.size w W) => operand_any ⟨4, rh1, ro1, ⟨pn1, ph1, pp1⟩, rn1, rr1⟩ 1 (by omega) W (hA.below hW) (hV.b hW) hl1
  obtain ⟨TX, hTX⟩ : ∃ t, t = operandT ⟨4, rh1, ro1, ⟨pn1, ph1, pp1⟩, rn1, rr1⟩ 0 := ⟨_, rfl⟩
  obtain ⟨TY, hTY⟩ : ∃ t, t = operandT ⟨4, rh1, ro1, ⟨pn1, ph1, pp1⟩, rn1, rr1⟩ 1 := ⟨_, rfl⟩
  rw [← hTX] at hc0 hR hl0
  rw [← hTY] at hc1 hR hl1
  have HR := Lib.hid (show strB TX ++ ⟨#[32, 60, 32]⟩ ++ strB TY = strB R by rw [hR, ← strB_append, ← strB_append]; rfl)
  have hz : (strB TX).size ≤ 100000000000000 := by rw [strB_size]; exact hl0
  have hz1 : (strB TY).size ≤ 100000000000000 := by rw [strB_size]; exact hl1
  simp only [rvV, rvC, plC, List.cons_append, List.nil_append] at hc0 hc1 ⊢
  replace hc0 := Lib.hid hc0
  replace hc1 := Lib.hid hc1
  have hsg : ∀ w', Below w.heap.size w w' → w'.cell? ⟨0, 3, none⟩ = some (.string ⟨#[32, 60, 32]⟩) := fun w' h => (hV.b h).signs 3 _ rfl
  have hqq : ∀ w', Below W0.heap.size W0 w' → w'.cell? ⟨w.heap.size, 0, none⟩ = some (.int .i64 4) ∧ w'.cell? ⟨w.heap.size, 1, none⟩ = some (.slice rh1.oa ro1.length rh1.cap) ∧ w'.cell? ⟨w.heap.size, 2, none⟩ = some (.string pn1) ∧ w'.cell? ⟨w.heap.size, 3, none⟩ = some (.slice ph1.oa pp1.length ph1.cap) ∧ w'.cell? ⟨w.heap.size, 4, none⟩ = some (.string rn1) ∧ w'.cell? ⟨w.heap.size, 5, none⟩ = some (.string rr1) ∧ w'.cell? ⟨0, 3, none⟩ = some (.string ⟨#[32, 60, 32]⟩) := fun w' h => by
    have h1 := keepB hx0 h
    refine ⟨?_, ?_, ?_, ?_, ?_, ?_, hsg w' (hb1.trans (h.mono hb1.size))⟩ <;> simp [World.cell?, h1]
  obtain ⟨y0, y1, y2, y3, y4, y5, y6⟩ := hqq W0 (Below.refl _ _)
  have HQ := Lib.hid hqq
  have HB := Lib.hid hb1
  clear hTX hTY hR hl0 hl1 hb0 hb1 hA hV hlen hx0 hqq hsg
  go_enter Tryz.func19, Tryz.ntmps19
  go_upto_region 9 with fail
  rw [← hW0]
  clear hW0
  have hwr : IntKind.i64.wrap 3 = 3 := by decide +kernel
  have hwr2 : IntKind.i64.wrap (4 - 1) = 3 := by decide +kernel
  refine wp_region_held_drew (S := (fun w' => w'.cell? ⟨w.heap.size, 0, none⟩ = some (.int .i64 4) ∧ w'.cell? ⟨w.heap.size, 1, none⟩ = some (.slice rh1.oa ro1.length rh1.cap) ∧ w'.cell? ⟨w.heap.size, 2, none⟩ = some (.string pn1) ∧ w'.cell? ⟨w.heap.size, 3, none⟩ = some (.slice ph1.oa pp1.length ph1.cap) ∧ w'.cell? ⟨w.heap.size, 4, none⟩ = some (.string rn1) ∧ w'.cell? ⟨w.heap.size, 5, none⟩ = some (.string rr1) ∧ w'.cell? ⟨0, 3, none⟩ = some (.string ⟨#[32, 60, 32]⟩))) (by kernel_rfl) ?_ (fun hHeld => ?_)
  · exact ⟨y0, y1, y2, y3, y4, y5, y6⟩
  refine wpAnyH_take (i := 0) (oi := { dst := some 15, op := Go.Op.load 49 (Go.Operand.tmp 1), type := 49, pos := "tree.go:81", after := #[], guard := none }) (v := ?vq0) rfl (by kernel_rfl) (by kernel_rfl) (by kernel_rfl) (fun _ _ _ h => h) (Or.inl ⟨by rfl, ?hq0⟩) (by assumption) ?_
  case hq0 => intro w hSw; (try dsimp only at hSw); go_simp; try (with_reducible rfl)
  (try simp only [Act.put, List.setIfInBounds_toArray, List.set_cons_zero, List.set_cons_succ])
  refine wpAnyH_take (i := 2) (oi := { dst := some 17, op := Go.Op.fieldAddr 49 (Go.Operand.tmp 1) 0, type := 0, pos := "tree.go:81", after := #[], guard := none }) (v := ?vq2) rfl (by kernel_rfl) (by kernel_rfl) (by kernel_rfl) (fun _ _ _ h => h) (Or.inl ⟨by rfl, ?hq2⟩) (by assumption) ?_
  case hq2 => intro w hSw; (try dsimp only at hSw); go_simp; try (with_reducible rfl)
  (try simp only [Act.put, List.setIfInBounds_toArray, List.set_cons_zero, List.set_cons_succ])
  refine wpAnyH_take (i := 3) (oi := { dst := some 18, op := Go.Op.load 46 (Go.Operand.tmp 17), type := 46, pos := "tree.go:81", after := #[{ on := 2, ground := Go.Ground.data }], guard := none }) (v := ?vq3) rfl (by kernel_rfl) (by kernel_rfl) (by kernel_rfl) (fun _ _ _ h => h) (Or.inl ⟨by rfl, ?hq3⟩) (by assumption) ?_
  case hq3 => intro w hSw; (try dsimp only at hSw); go_simp; try (with_reducible rfl)
  (try simp only [Act.put, List.setIfInBounds_toArray, List.set_cons_zero, List.set_cons_succ])
  refine wpAnyH_take (i := 4) (oi := { dst := some 19, op := Go.Op.binOp Go.BinOp.sub 46 (Go.Operand.tmp 18) (Go.Operand.const (Go.Value.int Go.IntKind.i64 1)) 46, type := 46, pos := "tree.go:81", after := #[{ on := 3, ground := Go.Ground.data }], guard := none }) (v := ?vq4) rfl (by kernel_rfl) (by kernel_rfl) (by kernel_rfl) (fun _ _ _ h => h) (Or.inl ⟨by rfl, ?hq4⟩) (by assumption) ?_
  case hq4 => intro w hSw; (try dsimp only at hSw); go_simp; try (with_reducible rfl)
  (try simp only [Act.put, List.setIfInBounds_toArray, List.set_cons_zero, List.set_cons_succ])
  refine wpAnyH_take (i := 5) (oi := { dst := some 20, op := Go.Op.indexAddr 114 (Go.Operand.global 0) (Go.Operand.tmp 19), type := 0, pos := "tree.go:81", after := #[{ on := 4, ground := Go.Ground.data }], guard := none }) (v := ?vq5) rfl (by kernel_rfl) (by kernel_rfl) (by kernel_rfl) (fun _ _ _ h => h) (Or.inl ⟨by rfl, ?hq5⟩) (by assumption) ?_
  case hq5 => intro w hSw; (try dsimp only at hSw); go_simp; try (with_reducible rfl)
  (try simp only [Act.put, List.setIfInBounds_toArray, List.set_cons_zero, List.set_cons_succ])
  refine wpAnyH_take (i := 6) (oi := { dst := some 21, op := Go.Op.load 9 (Go.Operand.tmp 20), type := 9, pos := "tree.go:81", after := #[{ on := 5, ground := Go.Ground.data }], guard := none }) (v := ?vq6) rfl (by kernel_rfl) (by kernel_rfl) (by kernel_rfl) (fun _ _ _ h => h) (Or.inl ⟨by rfl, ?hq6⟩) (by assumption) ?_
  case hq6 => intro w hSw; (try dsimp only at hSw); go_simp; try (with_reducible rfl)
  (try simp only [Act.put, List.setIfInBounds_toArray, List.set_cons_zero, List.set_cons_succ])
  refine wpAnyH_take (i := 8) (oi := { dst := some 23, op := Go.Op.load 49 (Go.Operand.tmp 1), type := 49, pos := "tree.go:81", after := #[], guard := none }) (v := ?vq8) rfl (by kernel_rfl) (by kernel_rfl) (by kernel_rfl) (fun _ _ _ h => h) (Or.inl ⟨by rfl, ?hq8⟩) (by assumption) ?_
  case hq8 => intro w hSw; (try dsimp only at hSw); go_simp; try (with_reducible rfl)
  (try simp only [Act.put, List.setIfInBounds_toArray, List.set_cons_zero, List.set_cons_succ])
  refine wpAnyH_ready (rs := [1]) (by kernel_rfl) (by simp) ?_
  refine AllReadyH.cons (o := { dst := some 16, op := Go.Op.call { callee := Go.Callee.value (Go.Operand.func 56), args := #[Go.Operand.tmp 15, Go.Operand.const (Go.Value.int Go.IntKind.i64 0)], argTypes := #[49, 3] }, type := 9, pos := "tree.go:81", after := #[{ on := 0, ground := Go.Ground.data }], guard := none }) rfl (fun K hK => ?_) AllReadyH.nil
  go_simp
  (go_at_call 56; refine (hc0.out W0.drew HB.out.drew).mono ?_; rintro e w2 ⟨rfl, hb2'⟩; have hb2 := below_undrew hb2'; obtain ⟨z0, z1, z2, z3, z4, z5, z6⟩ := HQ.out w2 hb2; have HB2 := Lib.hid (HB.out.trans (hb2.mono HB.out.size)); have HK2 := Lib.hid hb2; clear hb2' hb2)
  refine hK.out _ _ ?_ (fun hHeld => ?_)
  · exact ⟨z0, z1, z2, z3, z4, z5, z6⟩
  clear hK K
  (try simp only [Act.put, List.setIfInBounds_toArray, List.set_cons_zero, List.set_cons_succ])
  refine wpAnyH_take (i := 7) (oi := { dst := some 22, op := Go.Op.binOp Go.BinOp.add 9 (Go.Operand.tmp 16) (Go.Operand.tmp 21) 9, type := 9, pos := "tree.go:81", after := #[{ on := 1, ground := Go.Ground.data }, { on := 6, ground := Go.Ground.data }], guard := none }) (v := ?vq7) rfl (by kernel_rfl) (by kernel_rfl) (by kernel_rfl) (fun _ _ _ h => h) (Or.inl ⟨by rfl, ?hq7⟩) (by assumption) ?_
  case hq7 => intro w hSw; (try dsimp only at hSw); go_simp; rw [if_neg (by omega)]
  (try simp only [Act.put, List.setIfInBounds_toArray, List.set_cons_zero, List.set_cons_succ])
  refine wpAnyH_ready (rs := [9]) (by kernel_rfl) (by simp) ?_
  refine AllReadyH.cons (o := { dst := some 24, op := Go.Op.call { callee := Go.Callee.value (Go.Operand.func 56), args := #[Go.Operand.tmp 23, Go.Operand.const (Go.Value.int Go.IntKind.i64 1)], argTypes := #[49, 3] }, type := 9, pos := "tree.go:81", after := #[{ on := 8, ground := Go.Ground.data }, { on := 1, ground := Go.Ground.chain }], guard := none }) rfl (fun K hK => ?_) AllReadyH.nil
  go_simp
  (go_at_call 56; refine (hc1.out w2 HB2.out).mono ?_; rintro e w3 ⟨rfl, hb3⟩; have hk3 := HK2.out.trans (hb3.mono HK2.out.size); obtain ⟨u0, u1, u2, u3, u4, u5, u6⟩ := HQ.out w3 hk3; have HB3 := Lib.hid (HB2.out.trans (hb3.mono HB2.out.size)); clear hb3 hk3)
  refine hK.out _ _ ?_ (fun hHeld => ?_)
  · exact ⟨u0, u1, u2, u3, u4, u5, u6⟩
  clear hK K
  (try simp only [Act.put, List.setIfInBounds_toArray, List.set_cons_zero, List.set_cons_succ])
  refine wpAnyH_take (i := 10) (oi := { dst := some 25, op := Go.Op.binOp Go.BinOp.add 9 (Go.Operand.tmp 22) (Go.Operand.tmp 24) 9, type := 9, pos := "tree.go:81", after := #[{ on := 7, ground := Go.Ground.data }, { on := 9, ground := Go.Ground.data }], guard := none }) (v := ?vq10) rfl (by kernel_rfl) (by kernel_rfl) (by kernel_rfl) (fun _ _ _ h => h) (Or.inl ⟨by rfl, ?hq10⟩) (by assumption) ?_
  case hq10 => intro w hSw; (try dsimp only at hSw); go_simp; rw [if_neg (by omega)]
  (try simp only [Act.put, List.setIfInBounds_toArray, List.set_cons_zero, List.set_cons_succ])
  refine wpAnyH_take (i := 11) (oi := { dst := some 2, op := Go.Op.assign (Go.Operand.tmp 25), type := 9, pos := "tree.go:81", after := #[{ on := 10, ground := Go.Ground.data }, { on := 9, ground := Go.Ground.chain }, { on := 0, ground := Go.Ground.phase }, { on := 1, ground := Go.Ground.phase }, { on := 2, ground := Go.Ground.phase }, { on := 3, ground := Go.Ground.phase }, { on := 4, ground := Go.Ground.phase }, { on := 5, ground := Go.Ground.phase }, { on := 6, ground := Go.Ground.phase }, { on := 7, ground := Go.Ground.phase }, { on := 8, ground := Go.Ground.phase }, { on := 9, ground := Go.Ground.phase }, { on := 10, ground := Go.Ground.phase }], guard := none }) (v := ?vq11) rfl (by kernel_rfl) (by kernel_rfl) (by kernel_rfl) (fun _ _ _ h => h) (Or.inl ⟨by rfl, ?hq11⟩) (by assumption) ?_
  case hq11 => intro w hSw; (try dsimp only at hSw); go_simp; try (with_reducible rfl)
  (try simp only [Act.put, List.setIfInBounds_toArray, List.set_cons_zero, List.set_cons_succ])
  refine wpAnyH_done (by kernel_rfl) ?_ _
  go_wp2
  go_ret
  exact ⟨by rw [← HR.out]; first | done | rfl, HB3.out⟩

set_option maxRecDepth 100000 in
set_option maxHeartbeats 4000000 in
theorem set_5 (rh1 : Hd) (ro1 : List Op5) (pn1 : ByteArray) (ph1 : Hd) (pp1 : List ByteArray) (rn1 rr1 : ByteArray) (w : World) (hA : RvH w ⟨5, rh1, ro1, ⟨pn1, ph1, pp1⟩, rn1, rr1⟩) (hV : Vz w) (hlen : (setT ⟨5, rh1, ro1, ⟨pn1, ph1, pp1⟩, rn1, rr1⟩).length ≤ 100000000000000) : Calls Tryz.prog 19 #[rvV ⟨5, rh1, ro1, ⟨pn1, ph1, pp1⟩, rn1, rr1⟩] w fun e w' => e = .returned (.string (strB (setT ⟨5, rh1, ro1, ⟨pn1, ph1, pp1⟩, rn1, rr1⟩))) ∧ Below w.heap.size w w' := by
  obtain ⟨R, hR⟩ : ∃ R, R = setT ⟨5, rh1, ro1, ⟨pn1, ph1, pp1⟩, rn1, rr1⟩ := ⟨_, rfl⟩
  rw [← hR] at hlen ⊢
  have hb0 := alloc_below w (.cells #[.int .i64 5, .slice rh1.oa ro1.length rh1.cap, .string pn1, .slice ph1.oa pp1.length ph1.cap, .string rn1, .string rr1] 49)
  replace hR : R = operandT ⟨5, rh1, ro1, ⟨pn1, ph1, pp1⟩, rn1, rr1⟩ 0 ++ [32, 61, 61, 32] ++ operandT ⟨5, rh1, ro1, ⟨pn1, ph1, pp1⟩, rn1, rr1⟩ 1 := hR
  have hl0 : (operandT ⟨5, rh1, ro1, ⟨pn1, ph1, pp1⟩, rn1, rr1⟩ 0).length ≤ 100000000000000 := by rw [hR] at hlen; simp only [List.length_append] at hlen; omega
  have hl1 : (operandT ⟨5, rh1, ro1, ⟨pn1, ph1, pp1⟩, rn1, rr1⟩ 1).length ≤ 100000000000000 := by rw [hR] at hlen; simp only [List.length_append] at hlen; omega
  obtain ⟨W0, hW0⟩ : ∃ W, W = (w.alloc (.cells #[.int .i64 5, .slice rh1.oa ro1.length rh1.cap, .string pn1, .slice ph1.oa pp1.length ph1.cap, .string rn1, .string rr1] 49)) := ⟨_, rfl⟩
  have hx0 : W0.heap[w.heap.size]? = some (.cells #[.int .i64 5, .slice rh1.oa ro1.length rh1.cap, .string pn1, .slice ph1.oa pp1.length ph1.cap, .string rn1, .string rr1] 49) := by rw [hW0, heap_alloc_new]
  have hb1 : Below w.heap.size w W0 := by rw [hW0]; exact alloc_below _ _
  have hc0 := fun W (hW : Below w.heap.size w W) => operand_any ⟨5, rh1, ro1, ⟨pn1, ph1, pp1⟩, rn1, rr1⟩ 0 (by omega) W (hA.below hW) (hV.b hW) hl0
  have hc1 := fun W (hW : Below w.heap.size w W) => operand_any ⟨5, rh1, ro1, ⟨pn1, ph1, pp1⟩, rn1, rr1⟩ 1 (by omega) W (hA.below hW) (hV.b hW) hl1
  obtain ⟨TX, hTX⟩ : ∃ t, t = operandT ⟨5, rh1, ro1, ⟨pn1, ph1, pp1⟩, rn1, rr1⟩ 0 := ⟨_, rfl⟩
  obtain ⟨TY, hTY⟩ : ∃ t, t = operandT ⟨5, rh1, ro1, ⟨pn1, ph1, pp1⟩, rn1, rr1⟩ 1 := ⟨_, rfl⟩
  rw [← hTX] at hc0 hR hl0
  rw [← hTY] at hc1 hR hl1
  have HR := Lib.hid (show strB TX ++ ⟨#[32, 61, 61, 32]⟩ ++ strB TY = strB R by rw [hR, ← strB_append, ← strB_append]; rfl)
  have hz : (strB TX).size ≤ 100000000000000 := by rw [strB_size]; exact hl0
  have hz1 : (strB TY).size ≤ 100000000000000 := by rw [strB_size]; exact hl1
  simp only [rvV, rvC, plC, List.cons_append, List.nil_append] at hc0 hc1 ⊢
  replace hc0 := Lib.hid hc0
  replace hc1 := Lib.hid hc1
  have hsg : ∀ w', Below w.heap.size w w' → w'.cell? ⟨0, 4, none⟩ = some (.string ⟨#[32, 61, 61, 32]⟩) := fun w' h => (hV.b h).signs 4 _ rfl
  have hqq : ∀ w', Below W0.heap.size W0 w' → w'.cell? ⟨w.heap.size, 0, none⟩ = some (.int .i64 5) ∧ w'.cell? ⟨w.heap.size, 1, none⟩ = some (.slice rh1.oa ro1.length rh1.cap) ∧ w'.cell? ⟨w.heap.size, 2, none⟩ = some (.string pn1) ∧ w'.cell? ⟨w.heap.size, 3, none⟩ = some (.slice ph1.oa pp1.length ph1.cap) ∧ w'.cell? ⟨w.heap.size, 4, none⟩ = some (.string rn1) ∧ w'.cell? ⟨w.heap.size, 5, none⟩ = some (.string rr1) ∧ w'.cell? ⟨0, 4, none⟩ = some (.string ⟨#[32, 61, 61, 32]⟩) := fun w' h => by
    have h1 := keepB hx0 h
    refine ⟨?_, ?_, ?_, ?_, ?_, ?_, hsg w' (hb1.trans (h.mono hb1.size))⟩ <;> simp [World.cell?, h1]
  obtain ⟨y0, y1, y2, y3, y4, y5, y6⟩ := hqq W0 (Below.refl _ _)
  have HQ := Lib.hid hqq
  have HB := Lib.hid hb1
  clear hTX hTY hR hl0 hl1 hb0 hb1 hA hV hlen hx0 hqq hsg
  go_enter Tryz.func19, Tryz.ntmps19
  go_upto_region 9 with fail
  rw [← hW0]
  clear hW0
  have hwr : IntKind.i64.wrap 4 = 4 := by decide +kernel
  have hwr2 : IntKind.i64.wrap (5 - 1) = 4 := by decide +kernel
  refine wp_region_held_drew (S := (fun w' => w'.cell? ⟨w.heap.size, 0, none⟩ = some (.int .i64 5) ∧ w'.cell? ⟨w.heap.size, 1, none⟩ = some (.slice rh1.oa ro1.length rh1.cap) ∧ w'.cell? ⟨w.heap.size, 2, none⟩ = some (.string pn1) ∧ w'.cell? ⟨w.heap.size, 3, none⟩ = some (.slice ph1.oa pp1.length ph1.cap) ∧ w'.cell? ⟨w.heap.size, 4, none⟩ = some (.string rn1) ∧ w'.cell? ⟨w.heap.size, 5, none⟩ = some (.string rr1) ∧ w'.cell? ⟨0, 4, none⟩ = some (.string ⟨#[32, 61, 61, 32]⟩))) (by kernel_rfl) ?_ (fun hHeld => ?_)
  · exact ⟨y0, y1, y2, y3, y4, y5, y6⟩
  refine wpAnyH_take (i := 0) (oi := { dst := some 15, op := Go.Op.load 49 (Go.Operand.tmp 1), type := 49, pos := "tree.go:81", after := #[], guard := none }) (v := ?vq0) rfl (by kernel_rfl) (by kernel_rfl) (by kernel_rfl) (fun _ _ _ h => h) (Or.inl ⟨by rfl, ?hq0⟩) (by assumption) ?_
  case hq0 => intro w hSw; (try dsimp only at hSw); go_simp; try (with_reducible rfl)
  (try simp only [Act.put, List.setIfInBounds_toArray, List.set_cons_zero, List.set_cons_succ])
  refine wpAnyH_take (i := 2) (oi := { dst := some 17, op := Go.Op.fieldAddr 49 (Go.Operand.tmp 1) 0, type := 0, pos := "tree.go:81", after := #[], guard := none }) (v := ?vq2) rfl (by kernel_rfl) (by kernel_rfl) (by kernel_rfl) (fun _ _ _ h => h) (Or.inl ⟨by rfl, ?hq2⟩) (by assumption) ?_
  case hq2 => intro w hSw; (try dsimp only at hSw); go_simp; try (with_reducible rfl)
  (try simp only [Act.put, List.setIfInBounds_toArray, List.set_cons_zero, List.set_cons_succ])
  refine wpAnyH_take (i := 3) (oi := { dst := some 18, op := Go.Op.load 46 (Go.Operand.tmp 17), type := 46, pos := "tree.go:81", after := #[{ on := 2, ground := Go.Ground.data }], guard := none }) (v := ?vq3) rfl (by kernel_rfl) (by kernel_rfl) (by kernel_rfl) (fun _ _ _ h => h) (Or.inl ⟨by rfl, ?hq3⟩) (by assumption) ?_
  case hq3 => intro w hSw; (try dsimp only at hSw); go_simp; try (with_reducible rfl)
  (try simp only [Act.put, List.setIfInBounds_toArray, List.set_cons_zero, List.set_cons_succ])
  refine wpAnyH_take (i := 4) (oi := { dst := some 19, op := Go.Op.binOp Go.BinOp.sub 46 (Go.Operand.tmp 18) (Go.Operand.const (Go.Value.int Go.IntKind.i64 1)) 46, type := 46, pos := "tree.go:81", after := #[{ on := 3, ground := Go.Ground.data }], guard := none }) (v := ?vq4) rfl (by kernel_rfl) (by kernel_rfl) (by kernel_rfl) (fun _ _ _ h => h) (Or.inl ⟨by rfl, ?hq4⟩) (by assumption) ?_
  case hq4 => intro w hSw; (try dsimp only at hSw); go_simp; try (with_reducible rfl)
  (try simp only [Act.put, List.setIfInBounds_toArray, List.set_cons_zero, List.set_cons_succ])
  refine wpAnyH_take (i := 5) (oi := { dst := some 20, op := Go.Op.indexAddr 114 (Go.Operand.global 0) (Go.Operand.tmp 19), type := 0, pos := "tree.go:81", after := #[{ on := 4, ground := Go.Ground.data }], guard := none }) (v := ?vq5) rfl (by kernel_rfl) (by kernel_rfl) (by kernel_rfl) (fun _ _ _ h => h) (Or.inl ⟨by rfl, ?hq5⟩) (by assumption) ?_
  case hq5 => intro w hSw; (try dsimp only at hSw); go_simp; try (with_reducible rfl)
  (try simp only [Act.put, List.setIfInBounds_toArray, List.set_cons_zero, List.set_cons_succ])
  refine wpAnyH_take (i := 6) (oi := { dst := some 21, op := Go.Op.load 9 (Go.Operand.tmp 20), type := 9, pos := "tree.go:81", after := #[{ on := 5, ground := Go.Ground.data }], guard := none }) (v := ?vq6) rfl (by kernel_rfl) (by kernel_rfl) (by kernel_rfl) (fun _ _ _ h => h) (Or.inl ⟨by rfl, ?hq6⟩) (by assumption) ?_
  case hq6 => intro w hSw; (try dsimp only at hSw); go_simp; try (with_reducible rfl)
  (try simp only [Act.put, List.setIfInBounds_toArray, List.set_cons_zero, List.set_cons_succ])
  refine wpAnyH_take (i := 8) (oi := { dst := some 23, op := Go.Op.load 49 (Go.Operand.tmp 1), type := 49, pos := "tree.go:81", after := #[], guard := none }) (v := ?vq8) rfl (by kernel_rfl) (by kernel_rfl) (by kernel_rfl) (fun _ _ _ h => h) (Or.inl ⟨by rfl, ?hq8⟩) (by assumption) ?_
  case hq8 => intro w hSw; (try dsimp only at hSw); go_simp; try (with_reducible rfl)
  (try simp only [Act.put, List.setIfInBounds_toArray, List.set_cons_zero, List.set_cons_succ])
  refine wpAnyH_ready (rs := [1]) (by kernel_rfl) (by simp) ?_
  refine AllReadyH.cons (o := { dst := some 16, op := Go.Op.call { callee := Go.Callee.value (Go.Operand.func 56), args := #[Go.Operand.tmp 15, Go.Operand.const (Go.Value.int Go.IntKind.i64 0)], argTypes := #[49, 3] }, type := 9, pos := "tree.go:81", after := #[{ on := 0, ground := Go.Ground.data }], guard := none }) rfl (fun K hK => ?_) AllReadyH.nil
  go_simp
  (go_at_call 56; refine (hc0.out W0.drew HB.out.drew).mono ?_; rintro e w2 ⟨rfl, hb2'⟩; have hb2 := below_undrew hb2'; obtain ⟨z0, z1, z2, z3, z4, z5, z6⟩ := HQ.out w2 hb2; have HB2 := Lib.hid (HB.out.trans (hb2.mono HB.out.size)); have HK2 := Lib.hid hb2; clear hb2' hb2)
  refine hK.out _ _ ?_ (fun hHeld => ?_)
  · exact ⟨z0, z1, z2, z3, z4, z5, z6⟩
  clear hK K
  (try simp only [Act.put, List.setIfInBounds_toArray, List.set_cons_zero, List.set_cons_succ])
  refine wpAnyH_take (i := 7) (oi := { dst := some 22, op := Go.Op.binOp Go.BinOp.add 9 (Go.Operand.tmp 16) (Go.Operand.tmp 21) 9, type := 9, pos := "tree.go:81", after := #[{ on := 1, ground := Go.Ground.data }, { on := 6, ground := Go.Ground.data }], guard := none }) (v := ?vq7) rfl (by kernel_rfl) (by kernel_rfl) (by kernel_rfl) (fun _ _ _ h => h) (Or.inl ⟨by rfl, ?hq7⟩) (by assumption) ?_
  case hq7 => intro w hSw; (try dsimp only at hSw); go_simp; rw [if_neg (by omega)]
  (try simp only [Act.put, List.setIfInBounds_toArray, List.set_cons_zero, List.set_cons_succ])
  refine wpAnyH_ready (rs := [9]) (by kernel_rfl) (by simp) ?_
  refine AllReadyH.cons (o := { dst := some 24, op := Go.Op.call { callee := Go.Callee.value (Go.Operand.func 56), args := #[Go.Operand.tmp 23, Go.Operand.const (Go.Value.int Go.IntKind.i64 1)], argTypes := #[49, 3] }, type := 9, pos := "tree.go:81", after := #[{ on := 8, ground := Go.Ground.data }, { on := 1, ground := Go.Ground.chain }], guard := none }) rfl (fun K hK => ?_) AllReadyH.nil
  go_simp
  (go_at_call 56; refine (hc1.out w2 HB2.out).mono ?_; rintro e w3 ⟨rfl, hb3⟩; have hk3 := HK2.out.trans (hb3.mono HK2.out.size); obtain ⟨u0, u1, u2, u3, u4, u5, u6⟩ := HQ.out w3 hk3; have HB3 := Lib.hid (HB2.out.trans (hb3.mono HB2.out.size)); clear hb3 hk3)
  refine hK.out _ _ ?_ (fun hHeld => ?_)
  · exact ⟨u0, u1, u2, u3, u4, u5, u6⟩
  clear hK K
  (try simp only [Act.put, List.setIfInBounds_toArray, List.set_cons_zero, List.set_cons_succ])
  refine wpAnyH_take (i := 10) (oi := { dst := some 25, op := Go.Op.binOp Go.BinOp.add 9 (Go.Operand.tmp 22) (Go.Operand.tmp 24) 9, type := 9, pos := "tree.go:81", after := #[{ on := 7, ground := Go.Ground.data }, { on := 9, ground := Go.Ground.data }], guard := none }) (v := ?vq10) rfl (by kernel_rfl) (by kernel_rfl) (by kernel_rfl) (fun _ _ _ h => h) (Or.inl ⟨by rfl, ?hq10⟩) (by assumption) ?_
  case hq10 => intro w hSw; (try dsimp only at hSw); go_simp; rw [if_neg (by omega)]
  (try simp only [Act.put, List.setIfInBounds_toArray, List.set_cons_zero, List.set_cons_succ])
  refine wpAnyH_take (i := 11) (oi := { dst := some 2, op := Go.Op.assign (Go.Operand.tmp 25), type := 9, pos := "tree.go:81", after := #[{ on := 10, ground := Go.Ground.data }, { on := 9, ground := Go.Ground.chain }, { on := 0, ground := Go.Ground.phase }, { on := 1, ground := Go.Ground.phase }, { on := 2, ground := Go.Ground.phase }, { on := 3, ground := Go.Ground.phase }, { on := 4, ground := Go.Ground.phase }, { on := 5, ground := Go.Ground.phase }, { on := 6, ground := Go.Ground.phase }, { on := 7, ground := Go.Ground.phase }, { on := 8, ground := Go.Ground.phase }, { on := 9, ground := Go.Ground.phase }, { on := 10, ground := Go.Ground.phase }], guard := none }) (v := ?vq11) rfl (by kernel_rfl) (by kernel_rfl) (by kernel_rfl) (fun _ _ _ h => h) (Or.inl ⟨by rfl, ?hq11⟩) (by assumption) ?_
  case hq11 => intro w hSw; (try dsimp only at hSw); go_simp; try (with_reducible rfl)
  (try simp only [Act.put, List.setIfInBounds_toArray, List.set_cons_zero, List.set_cons_succ])
  refine wpAnyH_done (by kernel_rfl) ?_ _
  go_wp2
  go_ret
  exact ⟨by rw [← HR.out]; first | done | rfl, HB3.out⟩

theorem set_any (v : Rv5) (w : World) (hA : RvH w v) (hV : Vz w) (hlen : (setT v).length ≤ 100000000000000) : Calls Tryz.prog 19 #[rvV v] w fun e w' => e = .returned (.string (strB (setT v))) ∧ Below w.heap.size w w' := by
  obtain ⟨k, rh, ro, ⟨pn, ph, pp⟩, rn, rr⟩ := v
  by_cases q0 : k = 0
  · subst q0
    exact set_0 rh ro pn ph pp rn rr w hA hV hlen
  by_cases q1 : k = 1
  · subst q1
    exact set_1 rh ro pn ph pp rn rr w hA hV hlen
  by_cases q2 : k = 2
  · subst q2
    exact set_2 rh ro pn ph pp rn rr w hA hV hlen
  by_cases q3 : k = 3
  · subst q3
    exact set_3 rh ro pn ph pp rn rr w hA hV hlen
  by_cases q4 : k = 4
  · subst q4
    exact set_4 rh ro pn ph pp rn rr w hA hV hlen
  by_cases q5 : k = 5
  · subst q5
    exact set_5 rh ro pn ph pp rn rr w hA hV hlen
  by_cases q6 : k = 6
  · subst q6
    exact set_6 rh ro pn ph pp rn rr w hA hV hlen
  by_cases q7 : k = 7
  · subst q7
    exact set_7 rh ro pn ph pp rn rr w hA hV hlen
  by_cases q8 : k = 8
  · subst q8
    exact set_8 rh ro pn ph pp rn rr w hA hV hlen
  by_cases q9 : k = 9
  · subst q9
    exact set_9 rh ro pn ph pp rn rr w hA hV hlen
  by_cases q10 : k = 10
  · subst q10
    exact set_10 rh ro pn ph pp rn rr w hA hV hlen
  by_cases q11 : k = 11
  · subst q11
    exact set_11 rh ro pn ph pp rn rr w hA hV hlen
  by_cases q12 : k = 12
  · subst q12
    exact set_12 rh ro pn ph pp rn rr w hA hV hlen
  by_cases q13 : k = 13
  · subst q13
    exact set_13 rh ro pn ph pp rn rr w hA hV hlen
  by_cases q14 : k = 14
  · subst q14
    exact set_14 rh ro pn ph pp rn rr w hA hV hlen
  by_cases q15 : k = 15
  · subst q15
    exact set_15 rh ro pn ph pp rn rr w hA hV hlen
  exact set_X k rh ro pn ph pp rn rr w q0 q1 q2 q3 q4 q5 q6 q7 q8 q9 q10 q11 q12 q13 q14 q15
end Go.Proofs.YtgogdcpgfmndnaaGreatDoor
