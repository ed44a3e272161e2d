/-
  statement of tree's writer, its arms and both. Conditions: what is written lies in the heap, and is not longer than 10^14; the writer is one.
-/
import Derived.Test.YtgogdcpgfmndnaaGreatDoorTItem
import Derived.Test.YtgogdcpgfmndnaaGreatDoorTSetW
namespace Go.Proofs.YtgogdcpgfmndnaaGreatDoor
open Go.RowKit

mutual
def stT : Nat → St5 → List UInt8
  | t, .mk k _ nm ty p rv op _ th _ el _ ar =>
    if k = 0 then lineT t [⟨#[108, 101, 116, 32]⟩, nm, ⟨#[58, 32]⟩, strB (tyT ty), ⟨#[32, 61, 32]⟩, strB (setT rv), ⟨#[59]⟩]
    else if k = 1 then lineT t [strB (plT p), ⟨#[32, 61, 32]⟩, strB (setT rv), ⟨#[59]⟩]
    else if k = 2 then lineT t [⟨#[105, 102, 32]⟩, strB (opT op), ⟨#[32, 123]⟩] ++ stsT (t + 1) th ++ (if 0 < el.length then lineT t [⟨#[125, 32, 101, 108, 115, 101, 32, 123]⟩] ++ stsT (t + 1) el else []) ++ lineT t [⟨#[125]⟩]
    else if k = 3 then lineT t [⟨#[119, 104, 105, 108, 101, 32]⟩, strB (opT op), ⟨#[32, 123]⟩] ++ stsT (t + 1) th ++ lineT t [⟨#[125]⟩]
    else if k = 4 then lineT t [⟨#[109, 97, 116, 99, 104, 32]⟩, strB (plT p), ⟨#[32, 123]⟩] ++ arsT (t + 1) ar ++ lineT t [⟨#[125]⟩]
    else if k = 5 then lineT t [⟨#[121, 105, 101, 108, 100, 32]⟩, strB (opT op), ⟨#[59]⟩]
    else if k = 6 then lineT t [⟨#[114, 101, 116, 117, 114, 110, 32]⟩, strB (opT op), ⟨#[59]⟩]
    else if k = 7 then lineT t [⟨#[112, 114, 105, 110, 116, 32]⟩, strB (opT op), ⟨#[59]⟩]
    else if k = 8 then lineT t [⟨#[100, 114, 111, 112, 32]⟩, strB (plT p), ⟨#[59]⟩]
    else lineT t [⟨#[63]⟩]
def stsT : Nat → List St5 → List UInt8
  | _, [] => []
  | t, s :: r => stT t s ++ stsT t r
def arT : Nat → Ar5 → List UInt8
  | t, .mk vr bi _ body => lineT t [vr, strB (boundT bi), ⟨#[32, 61, 62, 32, 123]⟩] ++ stsT (t + 1) body ++ lineT t [⟨#[125]⟩]
def arsT : Nat → List Ar5 → List UInt8
  | _, [] => []
  | t, a :: r => arT t a ++ arsT t r
end
theorem stsT_eq (t : Nat) : ∀ l, stsT t l = rowT stT t l
  | [] => by rw [stsT]; rfl
  | s :: r => by rw [stsT, stsT_eq t r]; rfl
theorem arsT_eq (t : Nat) : ∀ l, arsT t l = l.flatMap (arT t)
  | [] => by rw [arsT]; rfl
  | s :: r => by rw [arsT, arsT_eq t r]; rfl
theorem line_tabs (t : Nat) (ps : List ByteArray) : t + 1 ≤ (lineT t ps).length := by
  simp only [lineT, List.length_append, List.length_replicate, List.length_cons, List.length_nil]
  omega
theorem box_cell {w : World} {k i : Nat} {c : List Value} {t : TypeId} {v : Value} (h : w.heap[k]? = some (.cells c.toArray t)) (e : c[i]? = some v) : w.cell? ⟨k, i, none⟩ = some v := by
  have := rangeAt_of_box h i v e
  rwa [Nat.zero_add] at this
/-- What a writer's method does to the writer. -/
abbrev Wrote (w0 : World) (b tabs : Nat) (bs0 t : List UInt8) (w : World) (e : Ending) (w' : World) : Prop :=
  e = .returned (.tuple #[]) ∧ IsB3 (.int .i64 tabs) w0.heap.size b (Lib.byteCells (bs0 ++ t)) w' ∧ Kp w0.heap.size b w w'
/-- A writer stands, above a world, at so many tabs. -/
structure Stands (w0 : World) (b tabs : Nat) (bs0 : List UInt8) (w : World) : Prop where
  isB : IsB3 (.int .i64 tabs) w0.heap.size b (Lib.byteCells bs0) w
  below : Below w0.heap.size w0 w
theorem Stands.call {w0 w w' : World} {b tabs : Nat} {bs0 : List UInt8} (h : Stands w0 b tabs bs0 w) (hb : Below w.heap.size w w') : Stands w0 b tabs bs0 w' := ⟨h.isB.below hb, h.below.trans (hb.mono h.below.size)⟩
theorem Stands.wrote {w0 w w' : World} {b tabs : Nat} {bs0 t : List UInt8} (h : Stands w0 b tabs bs0 w) (h1 : IsB3 (.int .i64 tabs) w0.heap.size b (Lib.byteCells (bs0 ++ t)) w') (k : Kp w0.heap.size b w w') : Stands w0 b tabs (bs0 ++ t) w' := ⟨h1, h.below.trans k.below⟩
theorem Stands.kp {w0 w w' : World} {b tabs : Nat} {bs0 : List UInt8} (h : Stands w0 b tabs bs0 w) (hb : Below w.heap.size w w') : Kp w0.heap.size b w w' := Kp.of_below hb h.below.size
theorem line_st {w0 : World} (tabs b cap : Nat) (bs0 : List UInt8) (ps : List ByteArray) (w : World) (h : Stands w0 b tabs bs0 w) (hpl : ps.length ≤ 1000) (hlen : bs0.length + (lineT tabs ps).length ≤ 100000000000000) :
    Calls Tryz.prog 47 #[.pointer (some ⟨b, 0, none⟩), .slice (some ⟨w.heap.size, 0, none⟩) ps.length cap] (w.alloc (.cells (ps.map Value.string).toArray 9)) fun e w' => e = .returned (.tuple #[]) ∧ Stands w0 b tabs (bs0 ++ lineT tabs ps) w' ∧ Kp w0.heap.size b w w' := by
  have hb := alloc_below w (.cells (ps.map Value.string).toArray 9)
  refine (line_any tabs w0.heap.size b w.heap.size cap bs0 ps _ (h.isB.below hb) (heap_alloc_new _ _) (by have := h.isB.lt; omega) (Nat.le_trans h.below.size hb.size) hpl hlen).mono ?_
  rintro e w' ⟨he, h1, k1⟩
  exact ⟨he, (h.call hb).wrote h1 k1, (h.kp hb).trans k1⟩

set_option maxRecDepth 100000 in
set_option maxHeartbeats 16000000 in
theorem statementT_5 (n tabs b : Nat) (sp1 : Int) (sn1 : ByteArray) (k1 : Int) (nm1 : ByteArray) (h1 : Hd) (l1 : List Ty5) (pn1 : ByteArray) (ph1 : Hd) (pp1 : List ByteArray) (rk1 : Int) (rh1 : Hd) (ro1 : List Op5) (pnr1 : ByteArray) (phr1 : Hd) (ppr1 : List ByteArray) (rn1 rr1 : ByteArray) (ono1 : Bool) (oio1 : Int) (pno1 : ByteArray) (pho1 : Hd) (ppo1 : List ByteArray) (ht1 : Hd) (th1 : List St5) (he1 : Hd) (el1 : List St5) (ha1 : Hd) (ar1 : List Ar5) (bs0 : List UInt8) (w0 w : World) (hx : StH (n + 1) w0 (.mk 5 sp1 sn1 (.mk k1 nm1 h1 l1) ⟨pn1, ph1, pp1⟩ ⟨rk1, rh1, ro1, ⟨pnr1, phr1, ppr1⟩, rn1, rr1⟩ ⟨ono1, oio1, ⟨pno1, pho1, ppo1⟩⟩ ht1 th1 he1 el1 ha1 ar1)) (hV : Vz w0) (hst : Stands w0 b tabs bs0 w) (hlen : bs0.length + (stT tabs (.mk 5 sp1 sn1 (.mk k1 nm1 h1 l1) ⟨pn1, ph1, pp1⟩ ⟨rk1, rh1, ro1, ⟨pnr1, phr1, ppr1⟩, rn1, rr1⟩ ⟨ono1, oio1, ⟨pno1, pho1, ppo1⟩⟩ ht1 th1 he1 el1 ha1 ar1)).length ≤ 100000000000000) :
    Calls Tryz.prog 82 #[.pointer (some ⟨b, 0, none⟩), stV (.mk 5 sp1 sn1 (.mk k1 nm1 h1 l1) ⟨pn1, ph1, pp1⟩ ⟨rk1, rh1, ro1, ⟨pnr1, phr1, ppr1⟩, rn1, rr1⟩ ⟨ono1, oio1, ⟨pno1, pho1, ppo1⟩⟩ ht1 th1 he1 el1 ha1 ar1)] w fun e w' => e = .returned (.tuple #[]) ∧ Stands w0 b tabs (bs0 ++ stT tabs (.mk 5 sp1 sn1 (.mk k1 nm1 h1 l1) ⟨pn1, ph1, pp1⟩ ⟨rk1, rh1, ro1, ⟨pnr1, phr1, ppr1⟩, rn1, rr1⟩ ⟨ono1, oio1, ⟨pno1, pho1, ppo1⟩⟩ ht1 th1 he1 el1 ha1 ar1)) w' ∧ Kp w0.heap.size b w w' := by
  obtain ⟨-, A2, A3, A4, A5, -⟩ := hx
  have hT : stT tabs (.mk 5 sp1 sn1 (.mk k1 nm1 h1 l1) ⟨pn1, ph1, pp1⟩ ⟨rk1, rh1, ro1, ⟨pnr1, phr1, ppr1⟩, rn1, rr1⟩ ⟨ono1, oio1, ⟨pno1, pho1, ppo1⟩⟩ ht1 th1 he1 el1 ha1 ar1) = lineT tabs [⟨#[121, 105, 101, 108, 100, 32]⟩, strB (opT ⟨ono1, oio1, ⟨pno1, pho1, ppo1⟩⟩), ⟨#[59]⟩] := by rw [stT, if_neg (by decide), if_neg (by decide), if_neg (by decide), if_neg (by decide), if_neg (by decide), if_pos rfl]
  rw [hT] at hlen ⊢
  have hl0 : (opT ⟨ono1, oio1, ⟨pno1, pho1, ppo1⟩⟩).length ≤ 100000000000000 := by
    have h1 := mem_line tabs [⟨#[121, 105, 101, 108, 100, 32]⟩, strB (opT ⟨ono1, oio1, ⟨pno1, pho1, ppo1⟩⟩), ⟨#[59]⟩] (strB (opT ⟨ono1, oio1, ⟨pno1, pho1, ppo1⟩⟩)) (by simp)
    rw [strB_size] at h1
    (try simp only [List.length_append] at hlen)
    omega
  have hc0 : ∀ W, Below w0.heap.size w0 W → Calls Tryz.prog 21 #[opV ⟨ono1, oio1, ⟨pno1, pho1, ppo1⟩⟩] W fun e w' => e = .returned (.string (strB (opT ⟨ono1, oio1, ⟨pno1, pho1, ppo1⟩⟩))) ∧ Below W.heap.size W w' := fun W hW => oper_any _ W (A5.below hW) (hV.below hW hV.size) hl0
  generalize strB (opT ⟨ono1, oio1, ⟨pno1, pho1, ppo1⟩⟩) = T0 at hc0 hlen hT ⊢
  simp only [opV, opC, plC, List.cons_append, List.nil_append] at hc0
  replace hc0 := Lib.hid hc0
  clear hl0
  have HL := Lib.hid (show ∀ W : World, Stands w0 b tabs (bs0) W → Calls Tryz.prog 47 #[.pointer (some ⟨b, 0, none⟩), .slice (some ⟨W.heap.size, 0, none⟩) 3 3] (W.alloc (.cells #[.string ⟨#[121, 105, 101, 108, 100, 32]⟩, .string T0, .string ⟨#[59]⟩] 9)) fun e w' => e = .returned (.tuple #[]) ∧ Stands w0 b tabs (bs0 ++ lineT tabs [⟨#[121, 105, 101, 108, 100, 32]⟩, T0, ⟨#[59]⟩]) w' ∧ Kp w0.heap.size b W w' from fun W h => line_st tabs b 3 (bs0) [⟨#[121, 105, 101, 108, 100, 32]⟩, T0, ⟨#[59]⟩] W h (by simp) (by (try simp only [List.length_append] at hlen ⊢); omega))
  clear hT A2 A3 A4 A5
  simp only [stV]
  obtain ⟨c1, hc1'⟩ : ∃ c, c = stC (.mk 5 sp1 sn1 (.mk k1 nm1 h1 l1) ⟨pn1, ph1, pp1⟩ ⟨rk1, rh1, ro1, ⟨pnr1, phr1, ppr1⟩, rn1, rr1⟩ ⟨ono1, oio1, ⟨pno1, pho1, ppo1⟩⟩ ht1 th1 he1 el1 ha1 ar1) := ⟨_, rfl⟩
  rw [← hc1']
  have e0 : c1[0]? = some (.int .i64 5) := by rw [hc1']; rfl
  have e14 : c1[14]? = some (.bool ono1) := by rw [hc1']; rfl
  have e15 : c1[15]? = some (.int .i64 oio1) := by rw [hc1']; rfl
  have e16 : c1[16]? = some (.string pno1) := by rw [hc1']; rfl
  have e17 : c1[17]? = some (.slice pho1.oa ppo1.length pho1.cap) := by rw [hc1']; rfl
  clear hc1'
  obtain ⟨W0, hW0⟩ : ∃ W, W = w.alloc (.cells c1.toArray 52) := ⟨_, rfl⟩
  have hx0 : W0.heap[w.heap.size]? = some (.cells c1.toArray 52) := by rw [hW0, heap_alloc_new]
  have hb1 : Below w.heap.size w W0 := by rw [hW0]; exact alloc_below _ _
  have S0 := Lib.hid (hst.call hb1)
  have K0 := Lib.hid (hst.kp hb1)
  have hbb := hst.isB.lt
  obtain ⟨bx, hbx⟩ : ∃ bx, bx = w.heap.size := ⟨_, rfl⟩
  rw [← hbx] at hx0
  have hne : bx ≠ b := by omega
  have HZ := Lib.hid (show ∀ w' : World, w'.heap[bx]? = some (.cells c1.toArray 52) → w'.cell? ⟨bx, 0, none⟩ = some (.int .i64 5) ∧ w'.cell? ⟨bx, 14, none⟩ = some (.bool ono1) ∧ w'.cell? ⟨bx, 15, none⟩ = some (.int .i64 oio1) ∧ w'.cell? ⟨bx, 16, none⟩ = some (.string pno1) ∧ w'.cell? ⟨bx, 17, none⟩ = some (.slice pho1.oa ppo1.length pho1.cap) from fun w' h => ⟨box_cell h e0, box_cell h e14, box_cell h e15, box_cell h e16, box_cell h e17⟩)
  have X0 := Lib.hid hx0
  clear e0 e14 e15 e16 e17 hst
  obtain ⟨y0, y14, y15, y16, y17⟩ := HZ.out W0 X0.out
  go_enter Tryz.func82, Tryz.ntmps82
  go_upto_region 1 with fail
  rw [← hW0, ← hbx]
  clear hW0 hbx hx0 hb1
  go_wp2_with fail
  refine (hc0.out _ S0.out.below).mono ?_
  rintro e w1 ⟨rfl, hq⟩
  have S1 := Lib.hid (S0.out.call hq)
  have K1 := Lib.hid (K0.out.trans (S0.out.kp hq))
  have X1 := Lib.hid (keepB X0.out hq)
  obtain ⟨z1_0, z1_14, z1_15, z1_16, z1_17⟩ := HZ.out w1 X1.out
  clear hq
  go_wp2_with fail
  refine (HL.out _ S1.out).mono ?_
  rintro e w2 ⟨rfl, hq1, hq2⟩
  have S2 := Lib.hid hq1
  have K2 := Lib.hid (K1.out.trans hq2)
  have X2 := Lib.hid (kp_block hq2 X1.out hne (by decide))
  clear hq1 hq2
  go_wp2
  first | go_end0 | refine bodyPost_ret (results_none rfl _ _ _) rfl ?_
  exact ⟨rfl, S2.out, K2.out⟩

set_option maxRecDepth 100000 in
set_option maxHeartbeats 16000000 in
theorem statementT_6 (n tabs b : Nat) (sp1 : Int) (sn1 : ByteArray) (k1 : Int) (nm1 : ByteArray) (h1 : Hd) (l1 : List Ty5) (pn1 : ByteArray) (ph1 : Hd) (pp1 : List ByteArray) (rk1 : Int) (rh1 : Hd) (ro1 : List Op5) (pnr1 : ByteArray) (phr1 : Hd) (ppr1 : List ByteArray) (rn1 rr1 : ByteArray) (ono1 : Bool) (oio1 : Int) (pno1 : ByteArray) (pho1 : Hd) (ppo1 : List ByteArray) (ht1 : Hd) (th1 : List St5) (he1 : Hd) (el1 : List St5) (ha1 : Hd) (ar1 : List Ar5) (bs0 : List UInt8) (w0 w : World) (hx : StH (n + 1) w0 (.mk 6 sp1 sn1 (.mk k1 nm1 h1 l1) ⟨pn1, ph1, pp1⟩ ⟨rk1, rh1, ro1, ⟨pnr1, phr1, ppr1⟩, rn1, rr1⟩ ⟨ono1, oio1, ⟨pno1, pho1, ppo1⟩⟩ ht1 th1 he1 el1 ha1 ar1)) (hV : Vz w0) (hst : Stands w0 b tabs bs0 w) (hlen : bs0.length + (stT tabs (.mk 6 sp1 sn1 (.mk k1 nm1 h1 l1) ⟨pn1, ph1, pp1⟩ ⟨rk1, rh1, ro1, ⟨pnr1, phr1, ppr1⟩, rn1, rr1⟩ ⟨ono1, oio1, ⟨pno1, pho1, ppo1⟩⟩ ht1 th1 he1 el1 ha1 ar1)).length ≤ 100000000000000) :
    Calls Tryz.prog 82 #[.pointer (some ⟨b, 0, none⟩), stV (.mk 6 sp1 sn1 (.mk k1 nm1 h1 l1) ⟨pn1, ph1, pp1⟩ ⟨rk1, rh1, ro1, ⟨pnr1, phr1, ppr1⟩, rn1, rr1⟩ ⟨ono1, oio1, ⟨pno1, pho1, ppo1⟩⟩ ht1 th1 he1 el1 ha1 ar1)] w fun e w' => e = .returned (.tuple #[]) ∧ Stands w0 b tabs (bs0 ++ stT tabs (.mk 6 sp1 sn1 (.mk k1 nm1 h1 l1) ⟨pn1, ph1, pp1⟩ ⟨rk1, rh1, ro1, ⟨pnr1, phr1, ppr1⟩, rn1, rr1⟩ ⟨ono1, oio1, ⟨pno1, pho1, ppo1⟩⟩ ht1 th1 he1 el1 ha1 ar1)) w' ∧ Kp w0.heap.size b w w' := by
  obtain ⟨-, A2, A3, A4, A5, -⟩ := hx
  have hT : stT tabs (.mk 6 sp1 sn1 (.mk k1 nm1 h1 l1) ⟨pn1, ph1, pp1⟩ ⟨rk1, rh1, ro1, ⟨pnr1, phr1, ppr1⟩, rn1, rr1⟩ ⟨ono1, oio1, ⟨pno1, pho1, ppo1⟩⟩ ht1 th1 he1 el1 ha1 ar1) = lineT tabs [⟨#[114, 101, 116, 117, 114, 110, 32]⟩, strB (opT ⟨ono1, oio1, ⟨pno1, pho1, ppo1⟩⟩), ⟨#[59]⟩] := by rw [stT, if_neg (by decide), if_neg (by decide), if_neg (by decide), if_neg (by decide), if_neg (by decide), if_neg (by decide), if_pos rfl]
  rw [hT] at hlen ⊢
  have hl0 : (opT ⟨ono1, oio1, ⟨pno1, pho1, ppo1⟩⟩).length ≤ 100000000000000 := by
    have h1 := mem_line tabs [⟨#[114, 101, 116, 117, 114, 110, 32]⟩, strB (opT ⟨ono1, oio1, ⟨pno1, pho1, ppo1⟩⟩), ⟨#[59]⟩] (strB (opT ⟨ono1, oio1, ⟨pno1, pho1, ppo1⟩⟩)) (by simp)
    rw [strB_size] at h1
    (try simp only [List.length_append] at hlen)
    omega
  have hc0 : ∀ W, Below w0.heap.size w0 W → Calls Tryz.prog 21 #[opV ⟨ono1, oio1, ⟨pno1, pho1, ppo1⟩⟩] W fun e w' => e = .returned (.string (strB (opT ⟨ono1, oio1, ⟨pno1, pho1, ppo1⟩⟩))) ∧ Below W.heap.size W w' := fun W hW => oper_any _ W (A5.below hW) (hV.below hW hV.size) hl0
  generalize strB (opT ⟨ono1, oio1, ⟨pno1, pho1, ppo1⟩⟩) = T0 at hc0 hlen hT ⊢
  simp only [opV, opC, plC, List.cons_append, List.nil_append] at hc0
  replace hc0 := Lib.hid hc0
  clear hl0
  have HL := Lib.hid (show ∀ W : World, Stands w0 b tabs (bs0) W → Calls Tryz.prog 47 #[.pointer (some ⟨b, 0, none⟩), .slice (some ⟨W.heap.size, 0, none⟩) 3 3] (W.alloc (.cells #[.string ⟨#[114, 101, 116, 117, 114, 110, 32]⟩, .string T0, .string ⟨#[59]⟩] 9)) fun e w' => e = .returned (.tuple #[]) ∧ Stands w0 b tabs (bs0 ++ lineT tabs [⟨#[114, 101, 116, 117, 114, 110, 32]⟩, T0, ⟨#[59]⟩]) w' ∧ Kp w0.heap.size b W w' from fun W h => line_st tabs b 3 (bs0) [⟨#[114, 101, 116, 117, 114, 110, 32]⟩, T0, ⟨#[59]⟩] W h (by simp) (by (try simp only [List.length_append] at hlen ⊢); omega))
  clear hT A2 A3 A4 A5
  simp only [stV]
  obtain ⟨c1, hc1'⟩ : ∃ c, c = stC (.mk 6 sp1 sn1 (.mk k1 nm1 h1 l1) ⟨pn1, ph1, pp1⟩ ⟨rk1, rh1, ro1, ⟨pnr1, phr1, ppr1⟩, rn1, rr1⟩ ⟨ono1, oio1, ⟨pno1, pho1, ppo1⟩⟩ ht1 th1 he1 el1 ha1 ar1) := ⟨_, rfl⟩
  rw [← hc1']
  have e0 : c1[0]? = some (.int .i64 6) := by rw [hc1']; rfl
  have e14 : c1[14]? = some (.bool ono1) := by rw [hc1']; rfl
  have e15 : c1[15]? = some (.int .i64 oio1) := by rw [hc1']; rfl
  have e16 : c1[16]? = some (.string pno1) := by rw [hc1']; rfl
  have e17 : c1[17]? = some (.slice pho1.oa ppo1.length pho1.cap) := by rw [hc1']; rfl
  clear hc1'
  obtain ⟨W0, hW0⟩ : ∃ W, W = w.alloc (.cells c1.toArray 52) := ⟨_, rfl⟩
  have hx0 : W0.heap[w.heap.size]? = some (.cells c1.toArray 52) := by rw [hW0, heap_alloc_new]
  have hb1 : Below w.heap.size w W0 := by rw [hW0]; exact alloc_below _ _
  have S0 := Lib.hid (hst.call hb1)
  have K0 := Lib.hid (hst.kp hb1)
  have hbb := hst.isB.lt
  obtain ⟨bx, hbx⟩ : ∃ bx, bx = w.heap.size := ⟨_, rfl⟩
  rw [← hbx] at hx0
  have hne : bx ≠ b := by omega
  have HZ := Lib.hid (show ∀ w' : World, w'.heap[bx]? = some (.cells c1.toArray 52) → w'.cell? ⟨bx, 0, none⟩ = some (.int .i64 6) ∧ w'.cell? ⟨bx, 14, none⟩ = some (.bool ono1) ∧ w'.cell? ⟨bx, 15, none⟩ = some (.int .i64 oio1) ∧ w'.cell? ⟨bx, 16, none⟩ = some (.string pno1) ∧ w'.cell? ⟨bx, 17, none⟩ = some (.slice pho1.oa ppo1.length pho1.cap) from fun w' h => ⟨box_cell h e0, box_cell h e14, box_cell h e15, box_cell h e16, box_cell h e17⟩)
  have X0 := Lib.hid hx0
  clear e0 e14 e15 e16 e17 hst
  obtain ⟨y0, y14, y15, y16, y17⟩ := HZ.out W0 X0.out
  go_enter Tryz.func82, Tryz.ntmps82
  go_upto_region 1 with fail
  rw [← hW0, ← hbx]
  clear hW0 hbx hx0 hb1
  go_wp2_with fail
  refine (hc0.out _ S0.out.below).mono ?_
  rintro e w1 ⟨rfl, hq⟩
  have S1 := Lib.hid (S0.out.call hq)
  have K1 := Lib.hid (K0.out.trans (S0.out.kp hq))
  have X1 := Lib.hid (keepB X0.out hq)
  obtain ⟨z1_0, z1_14, z1_15, z1_16, z1_17⟩ := HZ.out w1 X1.out
  clear hq
  go_wp2_with fail
  refine (HL.out _ S1.out).mono ?_
  rintro e w2 ⟨rfl, hq1, hq2⟩
  have S2 := Lib.hid hq1
  have K2 := Lib.hid (K1.out.trans hq2)
  have X2 := Lib.hid (kp_block hq2 X1.out hne (by decide))
  clear hq1 hq2
  go_wp2
  first | go_end0 | refine bodyPost_ret (results_none rfl _ _ _) rfl ?_
  exact ⟨rfl, S2.out, K2.out⟩

set_option maxRecDepth 100000 in
set_option maxHeartbeats 16000000 in
theorem statementT_7 (n tabs b : Nat) (sp1 : Int) (sn1 : ByteArray) (k1 : Int) (nm1 : ByteArray) (h1 : Hd) (l1 : List Ty5) (pn1 : ByteArray) (ph1 : Hd) (pp1 : List ByteArray) (rk1 : Int) (rh1 : Hd) (ro1 : List Op5) (pnr1 : ByteArray) (phr1 : Hd) (ppr1 : List ByteArray) (rn1 rr1 : ByteArray) (ono1 : Bool) (oio1 : Int) (pno1 : ByteArray) (pho1 : Hd) (ppo1 : List ByteArray) (ht1 : Hd) (th1 : List St5) (he1 : Hd) (el1 : List St5) (ha1 : Hd) (ar1 : List Ar5) (bs0 : List UInt8) (w0 w : World) (hx : StH (n + 1) w0 (.mk 7 sp1 sn1 (.mk k1 nm1 h1 l1) ⟨pn1, ph1, pp1⟩ ⟨rk1, rh1, ro1, ⟨pnr1, phr1, ppr1⟩, rn1, rr1⟩ ⟨ono1, oio1, ⟨pno1, pho1, ppo1⟩⟩ ht1 th1 he1 el1 ha1 ar1)) (hV : Vz w0) (hst : Stands w0 b tabs bs0 w) (hlen : bs0.length + (stT tabs (.mk 7 sp1 sn1 (.mk k1 nm1 h1 l1) ⟨pn1, ph1, pp1⟩ ⟨rk1, rh1, ro1, ⟨pnr1, phr1, ppr1⟩, rn1, rr1⟩ ⟨ono1, oio1, ⟨pno1, pho1, ppo1⟩⟩ ht1 th1 he1 el1 ha1 ar1)).length ≤ 100000000000000) :
    Calls Tryz.prog 82 #[.pointer (some ⟨b, 0, none⟩), stV (.mk 7 sp1 sn1 (.mk k1 nm1 h1 l1) ⟨pn1, ph1, pp1⟩ ⟨rk1, rh1, ro1, ⟨pnr1, phr1, ppr1⟩, rn1, rr1⟩ ⟨ono1, oio1, ⟨pno1, pho1, ppo1⟩⟩ ht1 th1 he1 el1 ha1 ar1)] w fun e w' => e = .returned (.tuple #[]) ∧ Stands w0 b tabs (bs0 ++ stT tabs (.mk 7 sp1 sn1 (.mk k1 nm1 h1 l1) ⟨pn1, ph1, pp1⟩ ⟨rk1, rh1, ro1, ⟨pnr1, phr1, ppr1⟩, rn1, rr1⟩ ⟨ono1, oio1, ⟨pno1, pho1, ppo1⟩⟩ ht1 th1 he1 el1 ha1 ar1)) w' ∧ Kp w0.heap.size b w w' := by
  obtain ⟨-, A2, A3, A4, A5, -⟩ := hx
  have hT : stT tabs (.mk 7 sp1 sn1 (.mk k1 nm1 h1 l1) ⟨pn1, ph1, pp1⟩ ⟨rk1, rh1, ro1, ⟨pnr1, phr1, ppr1⟩, rn1, rr1⟩ ⟨ono1, oio1, ⟨pno1, pho1, ppo1⟩⟩ ht1 th1 he1 el1 ha1 ar1) = lineT tabs [⟨#[112, 114, 105, 110, 116, 32]⟩, strB (opT ⟨ono1, oio1, ⟨pno1, pho1, ppo1⟩⟩), ⟨#[59]⟩] := by rw [stT, if_neg (by decide), if_neg (by decide), if_neg (by decide), if_neg (by decide), if_neg (by decide), if_neg (by decide), if_neg (by decide), if_pos rfl]
  rw [hT] at hlen ⊢
  have hl0 : (opT ⟨ono1, oio1, ⟨pno1, pho1, ppo1⟩⟩).length ≤ 100000000000000 := by
    have h1 := mem_line tabs [⟨#[112, 114, 105, 110, 116, 32]⟩, strB (opT ⟨ono1, oio1, ⟨pno1, pho1, ppo1⟩⟩), ⟨#[59]⟩] (strB (opT ⟨ono1, oio1, ⟨pno1, pho1, ppo1⟩⟩)) (by simp)
    rw [strB_size] at h1
    (try simp only [List.length_append] at hlen)
    omega
  have hc0 : ∀ W, Below w0.heap.size w0 W → Calls Tryz.prog 21 #[opV ⟨ono1, oio1, ⟨pno1, pho1, ppo1⟩⟩] W fun e w' => e = .returned (.string (strB (opT ⟨ono1, oio1, ⟨pno1, pho1, ppo1⟩⟩))) ∧ Below W.heap.size W w' := fun W hW => oper_any _ W (A5.below hW) (hV.below hW hV.size) hl0
  generalize strB (opT ⟨ono1, oio1, ⟨pno1, pho1, ppo1⟩⟩) = T0 at hc0 hlen hT ⊢
  simp only [opV, opC, plC, List.cons_append, List.nil_append] at hc0
  replace hc0 := Lib.hid hc0
  clear hl0
  have HL := Lib.hid (show ∀ W : World, Stands w0 b tabs (bs0) W → Calls Tryz.prog 47 #[.pointer (some ⟨b, 0, none⟩), .slice (some ⟨W.heap.size, 0, none⟩) 3 3] (W.alloc (.cells #[.string ⟨#[112, 114, 105, 110, 116, 32]⟩, .string T0, .string ⟨#[59]⟩] 9)) fun e w' => e = .returned (.tuple #[]) ∧ Stands w0 b tabs (bs0 ++ lineT tabs [⟨#[112, 114, 105, 110, 116, 32]⟩, T0, ⟨#[59]⟩]) w' ∧ Kp w0.heap.size b W w' from fun W h => line_st tabs b 3 (bs0) [⟨#[112, 114, 105, 110, 116, 32]⟩, T0, ⟨#[59]⟩] W h (by simp) (by (try simp only [List.length_append] at hlen ⊢); omega))
  clear hT A2 A3 A4 A5
  simp only [stV]
  obtain ⟨c1, hc1'⟩ : ∃ c, c = stC (.mk 7 sp1 sn1 (.mk k1 nm1 h1 l1) ⟨pn1, ph1, pp1⟩ ⟨rk1, rh1, ro1, ⟨pnr1, phr1, ppr1⟩, rn1, rr1⟩ ⟨ono1, oio1, ⟨pno1, pho1, ppo1⟩⟩ ht1 th1 he1 el1 ha1 ar1) := ⟨_, rfl⟩
  rw [← hc1']
  have e0 : c1[0]? = some (.int .i64 7) := by rw [hc1']; rfl
  have e14 : c1[14]? = some (.bool ono1) := by rw [hc1']; rfl
  have e15 : c1[15]? = some (.int .i64 oio1) := by rw [hc1']; rfl
  have e16 : c1[16]? = some (.string pno1) := by rw [hc1']; rfl
  have e17 : c1[17]? = some (.slice pho1.oa ppo1.length pho1.cap) := by rw [hc1']; rfl
  clear hc1'
  obtain ⟨W0, hW0⟩ : ∃ W, W = w.alloc (.cells c1.toArray 52) := ⟨_, rfl⟩
  have hx0 : W0.heap[w.heap.size]? = some (.cells c1.toArray 52) := by rw [hW0, heap_alloc_new]
  have hb1 : Below w.heap.size w W0 := by rw [hW0]; exact alloc_below _ _
  have S0 := Lib.hid (hst.call hb1)
  have K0 := Lib.hid (hst.kp hb1)
  have hbb := hst.isB.lt
  obtain ⟨bx, hbx⟩ : ∃ bx, bx = w.heap.size := ⟨_, rfl⟩
  rw [← hbx] at hx0
  have hne : bx ≠ b := by omega
  have HZ := Lib.hid (show ∀ w' : World, w'.heap[bx]? = some (.cells c1.toArray 52) → w'.cell? ⟨bx, 0, none⟩ = some (.int .i64 7) ∧ w'.cell? ⟨bx, 14, none⟩ = some (.bool ono1) ∧ w'.cell? ⟨bx, 15, none⟩ = some (.int .i64 oio1) ∧ w'.cell? ⟨bx, 16, none⟩ = some (.string pno1) ∧ w'.cell? ⟨bx, 17, none⟩ = some (.slice pho1.oa ppo1.length pho1.cap) from fun w' h => ⟨box_cell h e0, box_cell h e14, box_cell h e15, box_cell h e16, box_cell h e17⟩)
  have X0 := Lib.hid hx0
  clear e0 e14 e15 e16 e17 hst
  obtain ⟨y0, y14, y15, y16, y17⟩ := HZ.out W0 X0.out
  go_enter Tryz.func82, Tryz.ntmps82
  go_upto_region 1 with fail
  rw [← hW0, ← hbx]
  clear hW0 hbx hx0 hb1
  go_wp2_with fail
  refine (hc0.out _ S0.out.below).mono ?_
  rintro e w1 ⟨rfl, hq⟩
  have S1 := Lib.hid (S0.out.call hq)
  have K1 := Lib.hid (K0.out.trans (S0.out.kp hq))
  have X1 := Lib.hid (keepB X0.out hq)
  obtain ⟨z1_0, z1_14, z1_15, z1_16, z1_17⟩ := HZ.out w1 X1.out
  clear hq
  go_wp2_with fail
  refine (HL.out _ S1.out).mono ?_
  rintro e w2 ⟨rfl, hq1, hq2⟩
  have S2 := Lib.hid hq1
  have K2 := Lib.hid (K1.out.trans hq2)
  have X2 := Lib.hid (kp_block hq2 X1.out hne (by decide))
  clear hq1 hq2
  go_wp2
  first | go_end0 | refine bodyPost_ret (results_none rfl _ _ _) rfl ?_
  exact ⟨rfl, S2.out, K2.out⟩

set_option maxRecDepth 100000 in
set_option maxHeartbeats 16000000 in
theorem statementT_8 (n tabs b : Nat) (sp1 : Int) (sn1 : ByteArray) (k1 : Int) (nm1 : ByteArray) (h1 : Hd) (l1 : List Ty5) (pn1 : ByteArray) (ph1 : Hd) (pp1 : List ByteArray) (rk1 : Int) (rh1 : Hd) (ro1 : List Op5) (pnr1 : ByteArray) (phr1 : Hd) (ppr1 : List ByteArray) (rn1 rr1 : ByteArray) (ono1 : Bool) (oio1 : Int) (pno1 : ByteArray) (pho1 : Hd) (ppo1 : List ByteArray) (ht1 : Hd) (th1 : List St5) (he1 : Hd) (el1 : List St5) (ha1 : Hd) (ar1 : List Ar5) (bs0 : List UInt8) (w0 w : World) (hx : StH (n + 1) w0 (.mk 8 sp1 sn1 (.mk k1 nm1 h1 l1) ⟨pn1, ph1, pp1⟩ ⟨rk1, rh1, ro1, ⟨pnr1, phr1, ppr1⟩, rn1, rr1⟩ ⟨ono1, oio1, ⟨pno1, pho1, ppo1⟩⟩ ht1 th1 he1 el1 ha1 ar1)) (_ : Vz w0) (hst : Stands w0 b tabs bs0 w) (hlen : bs0.length + (stT tabs (.mk 8 sp1 sn1 (.mk k1 nm1 h1 l1) ⟨pn1, ph1, pp1⟩ ⟨rk1, rh1, ro1, ⟨pnr1, phr1, ppr1⟩, rn1, rr1⟩ ⟨ono1, oio1, ⟨pno1, pho1, ppo1⟩⟩ ht1 th1 he1 el1 ha1 ar1)).length ≤ 100000000000000) :
    Calls Tryz.prog 82 #[.pointer (some ⟨b, 0, none⟩), stV (.mk 8 sp1 sn1 (.mk k1 nm1 h1 l1) ⟨pn1, ph1, pp1⟩ ⟨rk1, rh1, ro1, ⟨pnr1, phr1, ppr1⟩, rn1, rr1⟩ ⟨ono1, oio1, ⟨pno1, pho1, ppo1⟩⟩ ht1 th1 he1 el1 ha1 ar1)] w fun e w' => e = .returned (.tuple #[]) ∧ Stands w0 b tabs (bs0 ++ stT tabs (.mk 8 sp1 sn1 (.mk k1 nm1 h1 l1) ⟨pn1, ph1, pp1⟩ ⟨rk1, rh1, ro1, ⟨pnr1, phr1, ppr1⟩, rn1, rr1⟩ ⟨ono1, oio1, ⟨pno1, pho1, ppo1⟩⟩ ht1 th1 he1 el1 ha1 ar1)) w' ∧ Kp w0.heap.size b w w' := by
  obtain ⟨-, A2, A3, A4, A5, -⟩ := hx
  have hT : stT tabs (.mk 8 sp1 sn1 (.mk k1 nm1 h1 l1) ⟨pn1, ph1, pp1⟩ ⟨rk1, rh1, ro1, ⟨pnr1, phr1, ppr1⟩, rn1, rr1⟩ ⟨ono1, oio1, ⟨pno1, pho1, ppo1⟩⟩ ht1 th1 he1 el1 ha1 ar1) = lineT tabs [⟨#[100, 114, 111, 112, 32]⟩, strB (plT ⟨pn1, ph1, pp1⟩), ⟨#[59]⟩] := by rw [stT, if_neg (by decide), if_neg (by decide), if_neg (by decide), if_neg (by decide), if_neg (by decide), if_neg (by decide), if_neg (by decide), if_neg (by decide), if_pos rfl]
  rw [hT] at hlen ⊢
  have hl0 : (plT ⟨pn1, ph1, pp1⟩).length ≤ 100000000000000 := by
    have h1 := mem_line tabs [⟨#[100, 114, 111, 112, 32]⟩, strB (plT ⟨pn1, ph1, pp1⟩), ⟨#[59]⟩] (strB (plT ⟨pn1, ph1, pp1⟩)) (by simp)
    rw [strB_size] at h1
    (try simp only [List.length_append] at hlen)
    omega
  have hc0 : ∀ W, Below w0.heap.size w0 W → Calls Tryz.prog 18 #[plV ⟨pn1, ph1, pp1⟩] W fun e w' => e = .returned (.string (strB (plT ⟨pn1, ph1, pp1⟩))) ∧ Below W.heap.size W w' := fun W hW => placeA_any _ W (A3.below hW) hl0
  generalize strB (plT ⟨pn1, ph1, pp1⟩) = T0 at hc0 hlen hT ⊢
  simp only [plV, plC] at hc0
  replace hc0 := Lib.hid hc0
  clear hl0
  have HL := Lib.hid (show ∀ W : World, Stands w0 b tabs (bs0) W → Calls Tryz.prog 47 #[.pointer (some ⟨b, 0, none⟩), .slice (some ⟨W.heap.size, 0, none⟩) 3 3] (W.alloc (.cells #[.string ⟨#[100, 114, 111, 112, 32]⟩, .string T0, .string ⟨#[59]⟩] 9)) fun e w' => e = .returned (.tuple #[]) ∧ Stands w0 b tabs (bs0 ++ lineT tabs [⟨#[100, 114, 111, 112, 32]⟩, T0, ⟨#[59]⟩]) w' ∧ Kp w0.heap.size b W w' from fun W h => line_st tabs b 3 (bs0) [⟨#[100, 114, 111, 112, 32]⟩, T0, ⟨#[59]⟩] W h (by simp) (by (try simp only [List.length_append] at hlen ⊢); omega))
  clear hT A2 A3 A4 A5
  simp only [stV]
  obtain ⟨c1, hc1'⟩ : ∃ c, c = stC (.mk 8 sp1 sn1 (.mk k1 nm1 h1 l1) ⟨pn1, ph1, pp1⟩ ⟨rk1, rh1, ro1, ⟨pnr1, phr1, ppr1⟩, rn1, rr1⟩ ⟨ono1, oio1, ⟨pno1, pho1, ppo1⟩⟩ ht1 th1 he1 el1 ha1 ar1) := ⟨_, rfl⟩
  rw [← hc1']
  have e0 : c1[0]? = some (.int .i64 8) := by rw [hc1']; rfl
  have e6 : c1[6]? = some (.string pn1) := by rw [hc1']; rfl
  have e7 : c1[7]? = some (.slice ph1.oa pp1.length ph1.cap) := by rw [hc1']; rfl
  clear hc1'
  obtain ⟨W0, hW0⟩ : ∃ W, W = w.alloc (.cells c1.toArray 52) := ⟨_, rfl⟩
  have hx0 : W0.heap[w.heap.size]? = some (.cells c1.toArray 52) := by rw [hW0, heap_alloc_new]
  have hb1 : Below w.heap.size w W0 := by rw [hW0]; exact alloc_below _ _
  have S0 := Lib.hid (hst.call hb1)
  have K0 := Lib.hid (hst.kp hb1)
  have hbb := hst.isB.lt
  obtain ⟨bx, hbx⟩ : ∃ bx, bx = w.heap.size := ⟨_, rfl⟩
  rw [← hbx] at hx0
  have hne : bx ≠ b := by omega
  have HZ := Lib.hid (show ∀ w' : World, w'.heap[bx]? = some (.cells c1.toArray 52) → w'.cell? ⟨bx, 0, none⟩ = some (.int .i64 8) ∧ w'.cell? ⟨bx, 6, none⟩ = some (.string pn1) ∧ w'.cell? ⟨bx, 7, none⟩ = some (.slice ph1.oa pp1.length ph1.cap) from fun w' h => ⟨box_cell h e0, box_cell h e6, box_cell h e7⟩)
  have X0 := Lib.hid hx0
  clear e0 e6 e7 hst
  obtain ⟨y0, y6, y7⟩ := HZ.out W0 X0.out
  go_enter Tryz.func82, Tryz.ntmps82
  go_upto_region 1 with fail
  rw [← hW0, ← hbx]
  clear hW0 hbx hx0 hb1
  go_wp2_with fail
  refine (hc0.out _ S0.out.below).mono ?_
  rintro e w1 ⟨rfl, hq⟩
  have S1 := Lib.hid (S0.out.call hq)
  have K1 := Lib.hid (K0.out.trans (S0.out.kp hq))
  have X1 := Lib.hid (keepB X0.out hq)
  obtain ⟨z1_0, z1_6, z1_7⟩ := HZ.out w1 X1.out
  clear hq
  go_wp2_with fail
  refine (HL.out _ S1.out).mono ?_
  rintro e w2 ⟨rfl, hq1, hq2⟩
  have S2 := Lib.hid hq1
  have K2 := Lib.hid (K1.out.trans hq2)
  have X2 := Lib.hid (kp_block hq2 X1.out hne (by decide))
  clear hq1 hq2
  go_wp2
  first | go_end0 | refine bodyPost_ret (results_none rfl _ _ _) rfl ?_
  exact ⟨rfl, S2.out, K2.out⟩

set_option maxRecDepth 100000 in
set_option maxHeartbeats 16000000 in
theorem statementT_X (n tabs b : Nat) (sk1 sp1 : Int) (sn1 : ByteArray) (k1 : Int) (nm1 : ByteArray) (h1 : Hd) (l1 : List Ty5) (pn1 : ByteArray) (ph1 : Hd) (pp1 : List ByteArray) (rk1 : Int) (rh1 : Hd) (ro1 : List Op5) (pnr1 : ByteArray) (phr1 : Hd) (ppr1 : List ByteArray) (rn1 rr1 : ByteArray) (ono1 : Bool) (oio1 : Int) (pno1 : ByteArray) (pho1 : Hd) (ppo1 : List ByteArray) (ht1 : Hd) (th1 : List St5) (he1 : Hd) (el1 : List St5) (ha1 : Hd) (ar1 : List Ar5) (bs0 : List UInt8) (w0 w : World) (_ : StH (n + 1) w0 (.mk sk1 sp1 sn1 (.mk k1 nm1 h1 l1) ⟨pn1, ph1, pp1⟩ ⟨rk1, rh1, ro1, ⟨pnr1, phr1, ppr1⟩, rn1, rr1⟩ ⟨ono1, oio1, ⟨pno1, pho1, ppo1⟩⟩ ht1 th1 he1 el1 ha1 ar1)) (_ : Vz w0) (hst : Stands w0 b tabs bs0 w) (hlen : bs0.length + (stT tabs (.mk sk1 sp1 sn1 (.mk k1 nm1 h1 l1) ⟨pn1, ph1, pp1⟩ ⟨rk1, rh1, ro1, ⟨pnr1, phr1, ppr1⟩, rn1, rr1⟩ ⟨ono1, oio1, ⟨pno1, pho1, ppo1⟩⟩ ht1 th1 he1 el1 ha1 ar1)).length ≤ 100000000000000)
    (q0 : ¬ sk1 = 0) (q1 : ¬ sk1 = 1) (q2 : ¬ sk1 = 2) (q3 : ¬ sk1 = 3) (q4 : ¬ sk1 = 4) (q5 : ¬ sk1 = 5) (q6 : ¬ sk1 = 6) (q7 : ¬ sk1 = 7) (q8 : ¬ sk1 = 8) :
    Calls Tryz.prog 82 #[.pointer (some ⟨b, 0, none⟩), stV (.mk sk1 sp1 sn1 (.mk k1 nm1 h1 l1) ⟨pn1, ph1, pp1⟩ ⟨rk1, rh1, ro1, ⟨pnr1, phr1, ppr1⟩, rn1, rr1⟩ ⟨ono1, oio1, ⟨pno1, pho1, ppo1⟩⟩ ht1 th1 he1 el1 ha1 ar1)] w fun e w' => e = .returned (.tuple #[]) ∧ Stands w0 b tabs (bs0 ++ stT tabs (.mk sk1 sp1 sn1 (.mk k1 nm1 h1 l1) ⟨pn1, ph1, pp1⟩ ⟨rk1, rh1, ro1, ⟨pnr1, phr1, ppr1⟩, rn1, rr1⟩ ⟨ono1, oio1, ⟨pno1, pho1, ppo1⟩⟩ ht1 th1 he1 el1 ha1 ar1)) w' ∧ Kp w0.heap.size b w w' := by
  have hT : stT tabs (.mk sk1 sp1 sn1 (.mk k1 nm1 h1 l1) ⟨pn1, ph1, pp1⟩ ⟨rk1, rh1, ro1, ⟨pnr1, phr1, ppr1⟩, rn1, rr1⟩ ⟨ono1, oio1, ⟨pno1, pho1, ppo1⟩⟩ ht1 th1 he1 el1 ha1 ar1) = lineT tabs [⟨#[63]⟩] := by rw [stT, if_neg q0, if_neg q1, if_neg q2, if_neg q3, if_neg q4, if_neg q5, if_neg q6, if_neg q7, if_neg q8]
  rw [hT] at hlen ⊢
  have HL := Lib.hid (show ∀ W : World, Stands w0 b tabs (bs0) W → Calls Tryz.prog 47 #[.pointer (some ⟨b, 0, none⟩), .slice (some ⟨W.heap.size, 0, none⟩) 1 1] (W.alloc (.cells #[.string ⟨#[63]⟩] 9)) fun e w' => e = .returned (.tuple #[]) ∧ Stands w0 b tabs (bs0 ++ lineT tabs [⟨#[63]⟩]) w' ∧ Kp w0.heap.size b W w' from fun W h => line_st tabs b 1 (bs0) [⟨#[63]⟩] W h (by simp) (by (try simp only [List.length_append] at hlen ⊢); omega))
  have s0 : (sk1 == 0) = false := by simpa using q0
  have s1 : (sk1 == 1) = false := by simpa using q1
  have s2 : (sk1 == 2) = false := by simpa using q2
  have s3 : (sk1 == 3) = false := by simpa using q3
  have s4 : (sk1 == 4) = false := by simpa using q4
  have s5 : (sk1 == 5) = false := by simpa using q5
  have s6 : (sk1 == 6) = false := by simpa using q6
  have s7 : (sk1 == 7) = false := by simpa using q7
  have s8 : (sk1 == 8) = false := by simpa using q8
  clear q0 q1 q2 q3 q4 q5 q6 q7 q8
  clear hT
  simp only [stV]
  obtain ⟨c1, hc1'⟩ : ∃ c, c = stC (.mk sk1 sp1 sn1 (.mk k1 nm1 h1 l1) ⟨pn1, ph1, pp1⟩ ⟨rk1, rh1, ro1, ⟨pnr1, phr1, ppr1⟩, rn1, rr1⟩ ⟨ono1, oio1, ⟨pno1, pho1, ppo1⟩⟩ ht1 th1 he1 el1 ha1 ar1) := ⟨_, rfl⟩
  rw [← hc1']
  have e0 : c1[0]? = some (.int .i64 sk1) := by rw [hc1']; rfl
  clear hc1'
  obtain ⟨W0, hW0⟩ : ∃ W, W = w.alloc (.cells c1.toArray 52) := ⟨_, rfl⟩
  have hx0 : W0.heap[w.heap.size]? = some (.cells c1.toArray 52) := by rw [hW0, heap_alloc_new]
  have hb1 : Below w.heap.size w W0 := by rw [hW0]; exact alloc_below _ _
  have S0 := Lib.hid (hst.call hb1)
  have K0 := Lib.hid (hst.kp hb1)
  have hbb := hst.isB.lt
  obtain ⟨bx, hbx⟩ : ∃ bx, bx = w.heap.size := ⟨_, rfl⟩
  rw [← hbx] at hx0
  have hne : bx ≠ b := by omega
  have HZ := Lib.hid (show ∀ w' : World, w'.heap[bx]? = some (.cells c1.toArray 52) → w'.cell? ⟨bx, 0, none⟩ = some (.int .i64 sk1) from fun w' h => box_cell h e0)
  have X0 := Lib.hid hx0
  clear e0 hst
  have y0 := HZ.out W0 X0.out
  go_enter Tryz.func82, Tryz.ntmps82
  go_upto_region 1 with fail
  rw [← hW0, ← hbx]
  clear hW0 hbx hx0 hb1
  go_wp2_with fail
  refine (HL.out _ S0.out).mono ?_
  rintro e w1 ⟨rfl, hq1, hq2⟩
  have S1 := Lib.hid hq1
  have K1 := Lib.hid (K0.out.trans hq2)
  have X1 := Lib.hid (kp_block hq2 X0.out hne (by decide))
  clear hq1 hq2
  go_wp2
  first | go_end0 | refine bodyPost_ret (results_none rfl _ _ _) rfl ?_
  exact ⟨rfl, S1.out, K1.out⟩

set_option maxRecDepth 100000 in
set_option maxHeartbeats 16000000 in
theorem statementT_3 (n tabs b : Nat) (sp1 : Int) (sn1 : ByteArray) (k1 : Int) (nm1 : ByteArray) (h1 : Hd) (l1 : List Ty5) (pn1 : ByteArray) (ph1 : Hd) (pp1 : List ByteArray) (rk1 : Int) (rh1 : Hd) (ro1 : List Op5) (pnr1 : ByteArray) (phr1 : Hd) (ppr1 : List ByteArray) (rn1 rr1 : ByteArray) (ono1 : Bool) (oio1 : Int) (pno1 : ByteArray) (pho1 : Hd) (ppo1 : List ByteArray) (ht1 : Hd) (th1 : List St5) (he1 : Hd) (el1 : List St5) (ha1 : Hd) (ar1 : List Ar5) (bs0 : List UInt8) (w0 w : World) (hx : StH (n + 1) w0 (.mk 3 sp1 sn1 (.mk k1 nm1 h1 l1) ⟨pn1, ph1, pp1⟩ ⟨rk1, rh1, ro1, ⟨pnr1, phr1, ppr1⟩, rn1, rr1⟩ ⟨ono1, oio1, ⟨pno1, pho1, ppo1⟩⟩ ht1 th1 he1 el1 ha1 ar1)) (hV : Vz w0) (hst : Stands w0 b tabs bs0 w) (hlen : bs0.length + (stT tabs (.mk 3 sp1 sn1 (.mk k1 nm1 h1 l1) ⟨pn1, ph1, pp1⟩ ⟨rk1, rh1, ro1, ⟨pnr1, phr1, ppr1⟩, rn1, rr1⟩ ⟨ono1, oio1, ⟨pno1, pho1, ppo1⟩⟩ ht1 th1 he1 el1 ha1 ar1)).length ≤ 100000000000000)
    (ihS : ∀ (x : St5) (tabs : Nat) (bs0 : List UInt8) (w : World), StH n w0 x → Stands w0 b tabs bs0 w → bs0.length + (stT tabs x).length ≤ 100000000000000 → Calls Tryz.prog 82 #[.pointer (some ⟨b, 0, none⟩), stV x] w fun e w' => e = .returned (.tuple #[]) ∧ Stands w0 b tabs (bs0 ++ stT tabs x) w' ∧ Kp w0.heap.size b w w') :
    Calls Tryz.prog 82 #[.pointer (some ⟨b, 0, none⟩), stV (.mk 3 sp1 sn1 (.mk k1 nm1 h1 l1) ⟨pn1, ph1, pp1⟩ ⟨rk1, rh1, ro1, ⟨pnr1, phr1, ppr1⟩, rn1, rr1⟩ ⟨ono1, oio1, ⟨pno1, pho1, ppo1⟩⟩ ht1 th1 he1 el1 ha1 ar1)] w fun e w' => e = .returned (.tuple #[]) ∧ Stands w0 b tabs (bs0 ++ stT tabs (.mk 3 sp1 sn1 (.mk k1 nm1 h1 l1) ⟨pn1, ph1, pp1⟩ ⟨rk1, rh1, ro1, ⟨pnr1, phr1, ppr1⟩, rn1, rr1⟩ ⟨ono1, oio1, ⟨pno1, pho1, ppo1⟩⟩ ht1 th1 he1 el1 ha1 ar1)) w' ∧ Kp w0.heap.size b w w' := by
  obtain ⟨-, A2, A3, A4, A5, A6, -⟩ := hx
  have hT : stT tabs (.mk 3 sp1 sn1 (.mk k1 nm1 h1 l1) ⟨pn1, ph1, pp1⟩ ⟨rk1, rh1, ro1, ⟨pnr1, phr1, ppr1⟩, rn1, rr1⟩ ⟨ono1, oio1, ⟨pno1, pho1, ppo1⟩⟩ ht1 th1 he1 el1 ha1 ar1) = lineT tabs [⟨#[119, 104, 105, 108, 101, 32]⟩, strB (opT ⟨ono1, oio1, ⟨pno1, pho1, ppo1⟩⟩), ⟨#[32, 123]⟩] ++ rowT stT (tabs + 1) th1 ++ lineT tabs [⟨#[125]⟩] := by rw [stT, if_neg (by decide), if_neg (by decide), if_neg (by decide), if_pos rfl, stsT_eq]
  rw [hT] at hlen ⊢
  have htb := line_tabs tabs [⟨#[119, 104, 105, 108, 101, 32]⟩, strB (opT ⟨ono1, oio1, ⟨pno1, pho1, ppo1⟩⟩), ⟨#[32, 123]⟩]
  have hlen2 := hlen
  simp only [List.length_append] at hlen2
  have hl0 : (opT ⟨ono1, oio1, ⟨pno1, pho1, ppo1⟩⟩).length ≤ 100000000000000 := by
    have h1 := mem_line tabs [⟨#[119, 104, 105, 108, 101, 32]⟩, strB (opT ⟨ono1, oio1, ⟨pno1, pho1, ppo1⟩⟩), ⟨#[32, 123]⟩] (strB (opT ⟨ono1, oio1, ⟨pno1, pho1, ppo1⟩⟩)) (by simp)
    rw [strB_size] at h1
    (try simp only [List.length_append] at hlen)
    omega
  have hc0 : ∀ W, Below w0.heap.size w0 W → Calls Tryz.prog 21 #[opV ⟨ono1, oio1, ⟨pno1, pho1, ppo1⟩⟩] W fun e w' => e = .returned (.string (strB (opT ⟨ono1, oio1, ⟨pno1, pho1, ppo1⟩⟩))) ∧ Below W.heap.size W w' := fun W hW => oper_any _ W (A5.below hW) (hV.below hW hV.size) hl0
  have htt : tabs + 1 ≤ 100000000000000 := by omega
  clear hlen2 htb
  generalize strB (opT ⟨ono1, oio1, ⟨pno1, pho1, ppo1⟩⟩) = T0 at hc0 hlen hT ⊢
  simp only [opV, opC, plC, List.cons_append, List.nil_append] at hc0
  replace hc0 := Lib.hid hc0
  clear hl0
  have HL := Lib.hid (show ∀ W : World, Stands w0 b tabs (bs0) W → Calls Tryz.prog 47 #[.pointer (some ⟨b, 0, none⟩), .slice (some ⟨W.heap.size, 0, none⟩) 3 3] (W.alloc (.cells #[.string ⟨#[119, 104, 105, 108, 101, 32]⟩, .string T0, .string ⟨#[32, 123]⟩] 9)) fun e w' => e = .returned (.tuple #[]) ∧ Stands w0 b tabs (bs0 ++ lineT tabs [⟨#[119, 104, 105, 108, 101, 32]⟩, T0, ⟨#[32, 123]⟩]) w' ∧ Kp w0.heap.size b W w' from fun W h => line_st tabs b 3 (bs0) [⟨#[119, 104, 105, 108, 101, 32]⟩, T0, ⟨#[32, 123]⟩] W h (by simp) (by (try simp only [List.length_append] at hlen ⊢); omega))
  have HRW := Lib.hid (show ∀ W : World, Stands w0 b tabs (bs0 ++ lineT tabs [⟨#[119, 104, 105, 108, 101, 32]⟩, T0, ⟨#[32, 123]⟩]) W → Calls Tryz.prog 52 #[.pointer (some ⟨b, 0, none⟩), .slice ht1.oa th1.length ht1.cap] W fun e w' => e = .returned (.tuple #[]) ∧ Stands w0 b tabs (bs0 ++ lineT tabs [⟨#[119, 104, 105, 108, 101, 32]⟩, T0, ⟨#[32, 123]⟩] ++ rowT stT (tabs + 1) th1) w' ∧ Kp w0.heap.size b W w' from fun W h => (row_step stT (StH n w0) tabs w0.heap.size b (bs0 ++ lineT tabs [⟨#[119, 104, 105, 108, 101, 32]⟩, T0, ⟨#[32, 123]⟩]) ht1 th1 w0 W rfl h.isB h.below A6 (by simp only [List.length_append] at hlen ⊢; omega) (by omega) (fun x hx bs1 w1 h1 h2 h3 => (ihS x (tabs + 1) bs1 w1 (A6.2.2.2 x hx) ⟨h1, h2⟩ h3).mono fun e w' h => ⟨h.1, h.2.1.isB, h.2.2⟩)).mono fun e w' q => ⟨q.1, h.wrote q.2.1 q.2.2, q.2.2⟩)
  have HL2 := Lib.hid (show ∀ W : World, Stands w0 b tabs (bs0 ++ lineT tabs [⟨#[119, 104, 105, 108, 101, 32]⟩, T0, ⟨#[32, 123]⟩] ++ rowT stT (tabs + 1) th1) W → Calls Tryz.prog 47 #[.pointer (some ⟨b, 0, none⟩), .slice (some ⟨W.heap.size, 0, none⟩) 1 1] (W.alloc (.cells #[.string ⟨#[125]⟩] 9)) fun e w' => e = .returned (.tuple #[]) ∧ Stands w0 b tabs (bs0 ++ lineT tabs [⟨#[119, 104, 105, 108, 101, 32]⟩, T0, ⟨#[32, 123]⟩] ++ rowT stT (tabs + 1) th1 ++ lineT tabs [⟨#[125]⟩]) w' ∧ Kp w0.heap.size b W w' from fun W h => line_st tabs b 1 (bs0 ++ lineT tabs [⟨#[119, 104, 105, 108, 101, 32]⟩, T0, ⟨#[32, 123]⟩] ++ rowT stT (tabs + 1) th1) [⟨#[125]⟩] W h (by simp) (by (try simp only [List.length_append] at hlen ⊢); omega))
  clear hT A2 A3 A4 A5 A6 ihS
  simp only [stV]
  obtain ⟨c1, hc1'⟩ : ∃ c, c = stC (.mk 3 sp1 sn1 (.mk k1 nm1 h1 l1) ⟨pn1, ph1, pp1⟩ ⟨rk1, rh1, ro1, ⟨pnr1, phr1, ppr1⟩, rn1, rr1⟩ ⟨ono1, oio1, ⟨pno1, pho1, ppo1⟩⟩ ht1 th1 he1 el1 ha1 ar1) := ⟨_, rfl⟩
  rw [← hc1']
  have e0 : c1[0]? = some (.int .i64 3) := by rw [hc1']; rfl
  have e14 : c1[14]? = some (.bool ono1) := by rw [hc1']; rfl
  have e15 : c1[15]? = some (.int .i64 oio1) := by rw [hc1']; rfl
  have e16 : c1[16]? = some (.string pno1) := by rw [hc1']; rfl
  have e17 : c1[17]? = some (.slice pho1.oa ppo1.length pho1.cap) := by rw [hc1']; rfl
  have e18 : c1[18]? = some (.slice ht1.oa th1.length ht1.cap) := by rw [hc1']; rfl
  clear hc1'
  obtain ⟨W0, hW0⟩ : ∃ W, W = w.alloc (.cells c1.toArray 52) := ⟨_, rfl⟩
  have hx0 : W0.heap[w.heap.size]? = some (.cells c1.toArray 52) := by rw [hW0, heap_alloc_new]
  have hb1 : Below w.heap.size w W0 := by rw [hW0]; exact alloc_below _ _
  have S0 := Lib.hid (hst.call hb1)
  have K0 := Lib.hid (hst.kp hb1)
  have hbb := hst.isB.lt
  obtain ⟨bx, hbx⟩ : ∃ bx, bx = w.heap.size := ⟨_, rfl⟩
  rw [← hbx] at hx0
  have hne : bx ≠ b := by omega
  have HZ := Lib.hid (show ∀ w' : World, w'.heap[bx]? = some (.cells c1.toArray 52) → w'.cell? ⟨bx, 0, none⟩ = some (.int .i64 3) ∧ w'.cell? ⟨bx, 14, none⟩ = some (.bool ono1) ∧ w'.cell? ⟨bx, 15, none⟩ = some (.int .i64 oio1) ∧ w'.cell? ⟨bx, 16, none⟩ = some (.string pno1) ∧ w'.cell? ⟨bx, 17, none⟩ = some (.slice pho1.oa ppo1.length pho1.cap) ∧ w'.cell? ⟨bx, 18, none⟩ = some (.slice ht1.oa th1.length ht1.cap) from fun w' h => ⟨box_cell h e0, box_cell h e14, box_cell h e15, box_cell h e16, box_cell h e17, box_cell h e18⟩)
  have X0 := Lib.hid hx0
  clear e0 e14 e15 e16 e17 e18 hst
  obtain ⟨y0, y14, y15, y16, y17, y18⟩ := HZ.out W0 X0.out
  go_enter Tryz.func82, Tryz.ntmps82
  go_upto_region 1 with fail
  rw [← hW0, ← hbx]
  clear hW0 hbx hx0 hb1
  go_wp2_with fail
  refine (hc0.out _ S0.out.below).mono ?_
  rintro e w1 ⟨rfl, hq⟩
  have S1 := Lib.hid (S0.out.call hq)
  have K1 := Lib.hid (K0.out.trans (S0.out.kp hq))
  have X1 := Lib.hid (keepB X0.out hq)
  obtain ⟨z1_0, z1_14, z1_15, z1_16, z1_17, z1_18⟩ := HZ.out w1 X1.out
  clear hq
  go_wp2_with fail
  refine (HL.out _ S1.out).mono ?_
  rintro e w2 ⟨rfl, hq1, hq2⟩
  have S2 := Lib.hid hq1
  have K2 := Lib.hid (K1.out.trans hq2)
  have X2 := Lib.hid (kp_block hq2 X1.out hne (by decide))
  obtain ⟨z2_0, z2_14, z2_15, z2_16, z2_17, z2_18⟩ := HZ.out w2 X2.out
  clear hq1 hq2
  go_wp2_with fail
  refine (HRW.out _ S2.out).mono ?_
  rintro e w3 ⟨rfl, hq1, hq2⟩
  have S3 := Lib.hid hq1
  have K3 := Lib.hid (K2.out.trans hq2)
  have X3 := Lib.hid (kp_block hq2 X2.out hne (by decide))
  obtain ⟨z3_0, z3_14, z3_15, z3_16, z3_17, z3_18⟩ := HZ.out w3 X3.out
  clear hq1 hq2
  go_wp2_with fail
  refine (HL2.out _ S3.out).mono ?_
  rintro e w4 ⟨rfl, hq1, hq2⟩
  have S4 := Lib.hid hq1
  have K4 := Lib.hid (K3.out.trans hq2)
  have X4 := Lib.hid (kp_block hq2 X3.out hne (by decide))
  clear hq1 hq2
  go_wp2
  first | go_end0 | refine bodyPost_ret (results_none rfl _ _ _) rfl ?_
  exact ⟨rfl, by simpa only [List.append_assoc] using S4.out, K4.out⟩

set_option maxRecDepth 100000 in
set_option maxHeartbeats 16000000 in
theorem statementT_4 (n tabs b : Nat) (sp1 : Int) (sn1 : ByteArray) (k1 : Int) (nm1 : ByteArray) (h1 : Hd) (l1 : List Ty5) (pn1 : ByteArray) (ph1 : Hd) (pp1 : List ByteArray) (rk1 : Int) (rh1 : Hd) (ro1 : List Op5) (pnr1 : ByteArray) (phr1 : Hd) (ppr1 : List ByteArray) (rn1 rr1 : ByteArray) (ono1 : Bool) (oio1 : Int) (pno1 : ByteArray) (pho1 : Hd) (ppo1 : List ByteArray) (ht1 : Hd) (th1 : List St5) (he1 : Hd) (el1 : List St5) (ha1 : Hd) (ar1 : List Ar5) (bs0 : List UInt8) (w0 w : World) (hx : StH (n + 1) w0 (.mk 4 sp1 sn1 (.mk k1 nm1 h1 l1) ⟨pn1, ph1, pp1⟩ ⟨rk1, rh1, ro1, ⟨pnr1, phr1, ppr1⟩, rn1, rr1⟩ ⟨ono1, oio1, ⟨pno1, pho1, ppo1⟩⟩ ht1 th1 he1 el1 ha1 ar1)) (_ : Vz w0) (hst : Stands w0 b tabs bs0 w) (hlen : bs0.length + (stT tabs (.mk 4 sp1 sn1 (.mk k1 nm1 h1 l1) ⟨pn1, ph1, pp1⟩ ⟨rk1, rh1, ro1, ⟨pnr1, phr1, ppr1⟩, rn1, rr1⟩ ⟨ono1, oio1, ⟨pno1, pho1, ppo1⟩⟩ ht1 th1 he1 el1 ha1 ar1)).length ≤ 100000000000000)
    (ihA : ∀ (h : Hd) (l : List Ar5) (tabs : Nat) (bs0 : List UInt8) (w : World), Row w0 h 3 l arC (ArH n w0) → Stands w0 b tabs bs0 w → tabs + 1 ≤ 100000000000000 → bs0.length + (l.flatMap (arT (tabs + 1))).length ≤ 100000000000000 → Calls Tryz.prog 107 #[.pointer (some ⟨b, 0, none⟩), .slice h.oa l.length h.cap] w fun e w' => e = .returned (.tuple #[]) ∧ Stands w0 b tabs (bs0 ++ l.flatMap (arT (tabs + 1))) w' ∧ Kp w0.heap.size b w w') :
    Calls Tryz.prog 82 #[.pointer (some ⟨b, 0, none⟩), stV (.mk 4 sp1 sn1 (.mk k1 nm1 h1 l1) ⟨pn1, ph1, pp1⟩ ⟨rk1, rh1, ro1, ⟨pnr1, phr1, ppr1⟩, rn1, rr1⟩ ⟨ono1, oio1, ⟨pno1, pho1, ppo1⟩⟩ ht1 th1 he1 el1 ha1 ar1)] w fun e w' => e = .returned (.tuple #[]) ∧ Stands w0 b tabs (bs0 ++ stT tabs (.mk 4 sp1 sn1 (.mk k1 nm1 h1 l1) ⟨pn1, ph1, pp1⟩ ⟨rk1, rh1, ro1, ⟨pnr1, phr1, ppr1⟩, rn1, rr1⟩ ⟨ono1, oio1, ⟨pno1, pho1, ppo1⟩⟩ ht1 th1 he1 el1 ha1 ar1)) w' ∧ Kp w0.heap.size b w w' := by
  obtain ⟨-, A2, A3, A4, A5, -, -, A8⟩ := hx
  have hT : stT tabs (.mk 4 sp1 sn1 (.mk k1 nm1 h1 l1) ⟨pn1, ph1, pp1⟩ ⟨rk1, rh1, ro1, ⟨pnr1, phr1, ppr1⟩, rn1, rr1⟩ ⟨ono1, oio1, ⟨pno1, pho1, ppo1⟩⟩ ht1 th1 he1 el1 ha1 ar1) = lineT tabs [⟨#[109, 97, 116, 99, 104, 32]⟩, strB (plT ⟨pn1, ph1, pp1⟩), ⟨#[32, 123]⟩] ++ ar1.flatMap (arT (tabs + 1)) ++ lineT tabs [⟨#[125]⟩] := by rw [stT, if_neg (by decide), if_neg (by decide), if_neg (by decide), if_neg (by decide), if_pos rfl, arsT_eq]
  rw [hT] at hlen ⊢
  have htb := line_tabs tabs [⟨#[109, 97, 116, 99, 104, 32]⟩, strB (plT ⟨pn1, ph1, pp1⟩), ⟨#[32, 123]⟩]
  have hlen2 := hlen
  simp only [List.length_append] at hlen2
  have hl0 : (plT ⟨pn1, ph1, pp1⟩).length ≤ 100000000000000 := by
    have h1 := mem_line tabs [⟨#[109, 97, 116, 99, 104, 32]⟩, strB (plT ⟨pn1, ph1, pp1⟩), ⟨#[32, 123]⟩] (strB (plT ⟨pn1, ph1, pp1⟩)) (by simp)
    rw [strB_size] at h1
    (try simp only [List.length_append] at hlen)
    omega
  have hc0 : ∀ W, Below w0.heap.size w0 W → Calls Tryz.prog 18 #[plV ⟨pn1, ph1, pp1⟩] W fun e w' => e = .returned (.string (strB (plT ⟨pn1, ph1, pp1⟩))) ∧ Below W.heap.size W w' := fun W hW => placeA_any _ W (A3.below hW) hl0
  have htt : tabs + 1 ≤ 100000000000000 := by omega
  clear hlen2 htb
  generalize strB (plT ⟨pn1, ph1, pp1⟩) = T0 at hc0 hlen hT ⊢
  simp only [plV, plC] at hc0
  replace hc0 := Lib.hid hc0
  clear hl0
  have HL := Lib.hid (show ∀ W : World, Stands w0 b tabs (bs0) W → Calls Tryz.prog 47 #[.pointer (some ⟨b, 0, none⟩), .slice (some ⟨W.heap.size, 0, none⟩) 3 3] (W.alloc (.cells #[.string ⟨#[109, 97, 116, 99, 104, 32]⟩, .string T0, .string ⟨#[32, 123]⟩] 9)) fun e w' => e = .returned (.tuple #[]) ∧ Stands w0 b tabs (bs0 ++ lineT tabs [⟨#[109, 97, 116, 99, 104, 32]⟩, T0, ⟨#[32, 123]⟩]) w' ∧ Kp w0.heap.size b W w' from fun W h => line_st tabs b 3 (bs0) [⟨#[109, 97, 116, 99, 104, 32]⟩, T0, ⟨#[32, 123]⟩] W h (by simp) (by (try simp only [List.length_append] at hlen ⊢); omega))
  have HRW := Lib.hid (show ∀ W : World, Stands w0 b tabs (bs0 ++ lineT tabs [⟨#[109, 97, 116, 99, 104, 32]⟩, T0, ⟨#[32, 123]⟩]) W → Calls Tryz.prog 107 #[.pointer (some ⟨b, 0, none⟩), .slice ha1.oa ar1.length ha1.cap] W fun e w' => e = .returned (.tuple #[]) ∧ Stands w0 b tabs (bs0 ++ lineT tabs [⟨#[109, 97, 116, 99, 104, 32]⟩, T0, ⟨#[32, 123]⟩] ++ ar1.flatMap (arT (tabs + 1))) w' ∧ Kp w0.heap.size b W w' from fun W h => ihA ha1 ar1 tabs (bs0 ++ lineT tabs [⟨#[109, 97, 116, 99, 104, 32]⟩, T0, ⟨#[32, 123]⟩]) W A8 h htt (by simp only [List.length_append] at hlen ⊢; omega))
  have HL2 := Lib.hid (show ∀ W : World, Stands w0 b tabs (bs0 ++ lineT tabs [⟨#[109, 97, 116, 99, 104, 32]⟩, T0, ⟨#[32, 123]⟩] ++ ar1.flatMap (arT (tabs + 1))) W → Calls Tryz.prog 47 #[.pointer (some ⟨b, 0, none⟩), .slice (some ⟨W.heap.size, 0, none⟩) 1 1] (W.alloc (.cells #[.string ⟨#[125]⟩] 9)) fun e w' => e = .returned (.tuple #[]) ∧ Stands w0 b tabs (bs0 ++ lineT tabs [⟨#[109, 97, 116, 99, 104, 32]⟩, T0, ⟨#[32, 123]⟩] ++ ar1.flatMap (arT (tabs + 1)) ++ lineT tabs [⟨#[125]⟩]) w' ∧ Kp w0.heap.size b W w' from fun W h => line_st tabs b 1 (bs0 ++ lineT tabs [⟨#[109, 97, 116, 99, 104, 32]⟩, T0, ⟨#[32, 123]⟩] ++ ar1.flatMap (arT (tabs + 1))) [⟨#[125]⟩] W h (by simp) (by (try simp only [List.length_append] at hlen ⊢); omega))
  clear hT A2 A3 A4 A5 A8 ihA
  simp only [stV]
  obtain ⟨c1, hc1'⟩ : ∃ c, c = stC (.mk 4 sp1 sn1 (.mk k1 nm1 h1 l1) ⟨pn1, ph1, pp1⟩ ⟨rk1, rh1, ro1, ⟨pnr1, phr1, ppr1⟩, rn1, rr1⟩ ⟨ono1, oio1, ⟨pno1, pho1, ppo1⟩⟩ ht1 th1 he1 el1 ha1 ar1) := ⟨_, rfl⟩
  rw [← hc1']
  have e0 : c1[0]? = some (.int .i64 4) := by rw [hc1']; rfl
  have e6 : c1[6]? = some (.string pn1) := by rw [hc1']; rfl
  have e7 : c1[7]? = some (.slice ph1.oa pp1.length ph1.cap) := by rw [hc1']; rfl
  have e20 : c1[20]? = some (.slice ha1.oa ar1.length ha1.cap) := by rw [hc1']; rfl
  clear hc1'
  obtain ⟨W0, hW0⟩ : ∃ W, W = w.alloc (.cells c1.toArray 52) := ⟨_, rfl⟩
  have hx0 : W0.heap[w.heap.size]? = some (.cells c1.toArray 52) := by rw [hW0, heap_alloc_new]
  have hb1 : Below w.heap.size w W0 := by rw [hW0]; exact alloc_below _ _
  have S0 := Lib.hid (hst.call hb1)
  have K0 := Lib.hid (hst.kp hb1)
  have hbb := hst.isB.lt
  obtain ⟨bx, hbx⟩ : ∃ bx, bx = w.heap.size := ⟨_, rfl⟩
  rw [← hbx] at hx0
  have hne : bx ≠ b := by omega
  have HZ := Lib.hid (show ∀ w' : World, w'.heap[bx]? = some (.cells c1.toArray 52) → w'.cell? ⟨bx, 0, none⟩ = some (.int .i64 4) ∧ w'.cell? ⟨bx, 6, none⟩ = some (.string pn1) ∧ w'.cell? ⟨bx, 7, none⟩ = some (.slice ph1.oa pp1.length ph1.cap) ∧ w'.cell? ⟨bx, 20, none⟩ = some (.slice ha1.oa ar1.length ha1.cap) from fun w' h => ⟨box_cell h e0, box_cell h e6, box_cell h e7, box_cell h e20⟩)
  have X0 := Lib.hid hx0
  clear e0 e6 e7 e20 hst
  obtain ⟨y0, y6, y7, y20⟩ := HZ.out W0 X0.out
  go_enter Tryz.func82, Tryz.ntmps82
  go_upto_region 1 with fail
  rw [← hW0, ← hbx]
  clear hW0 hbx hx0 hb1
  go_wp2_with fail
  refine (hc0.out _ S0.out.below).mono ?_
  rintro e w1 ⟨rfl, hq⟩
  have S1 := Lib.hid (S0.out.call hq)
  have K1 := Lib.hid (K0.out.trans (S0.out.kp hq))
  have X1 := Lib.hid (keepB X0.out hq)
  obtain ⟨z1_0, z1_6, z1_7, z1_20⟩ := HZ.out w1 X1.out
  clear hq
  go_wp2_with fail
  refine (HL.out _ S1.out).mono ?_
  rintro e w2 ⟨rfl, hq1, hq2⟩
  have S2 := Lib.hid hq1
  have K2 := Lib.hid (K1.out.trans hq2)
  have X2 := Lib.hid (kp_block hq2 X1.out hne (by decide))
  obtain ⟨z2_0, z2_6, z2_7, z2_20⟩ := HZ.out w2 X2.out
  clear hq1 hq2
  go_wp2_with fail
  refine (HRW.out _ S2.out).mono ?_
  rintro e w3 ⟨rfl, hq1, hq2⟩
  have S3 := Lib.hid hq1
  have K3 := Lib.hid (K2.out.trans hq2)
  have X3 := Lib.hid (kp_block hq2 X2.out hne (by decide))
  obtain ⟨z3_0, z3_6, z3_7, z3_20⟩ := HZ.out w3 X3.out
  clear hq1 hq2
  go_wp2_with fail
  refine (HL2.out _ S3.out).mono ?_
  rintro e w4 ⟨rfl, hq1, hq2⟩
  have S4 := Lib.hid hq1
  have K4 := Lib.hid (K3.out.trans hq2)
  have X4 := Lib.hid (kp_block hq2 X3.out hne (by decide))
  clear hq1 hq2
  go_wp2
  first | go_end0 | refine bodyPost_ret (results_none rfl _ _ _) rfl ?_
  exact ⟨rfl, by simpa only [List.append_assoc] using S4.out, K4.out⟩

set_option maxRecDepth 100000 in
set_option maxHeartbeats 16000000 in
theorem statementT_0 (n tabs b : Nat) (sp1 : Int) (sn1 : ByteArray) (k1 : Int) (nm1 : ByteArray) (h1 : Hd) (l1 : List Ty5) (pn1 : ByteArray) (ph1 : Hd) (pp1 : List ByteArray) (rk1 : Int) (rh1 : Hd) (ro1 : List Op5) (pnr1 : ByteArray) (phr1 : Hd) (ppr1 : List ByteArray) (rn1 rr1 : ByteArray) (ono1 : Bool) (oio1 : Int) (pno1 : ByteArray) (pho1 : Hd) (ppo1 : List ByteArray) (ht1 : Hd) (th1 : List St5) (he1 : Hd) (el1 : List St5) (ha1 : Hd) (ar1 : List Ar5) (bs0 : List UInt8) (w0 w : World) (hx : StH (n + 1) w0 (.mk 0 sp1 sn1 (.mk k1 nm1 h1 l1) ⟨pn1, ph1, pp1⟩ ⟨rk1, rh1, ro1, ⟨pnr1, phr1, ppr1⟩, rn1, rr1⟩ ⟨ono1, oio1, ⟨pno1, pho1, ppo1⟩⟩ ht1 th1 he1 el1 ha1 ar1)) (hV : Vz w0) (hst : Stands w0 b tabs bs0 w) (hlen : bs0.length + (stT tabs (.mk 0 sp1 sn1 (.mk k1 nm1 h1 l1) ⟨pn1, ph1, pp1⟩ ⟨rk1, rh1, ro1, ⟨pnr1, phr1, ppr1⟩, rn1, rr1⟩ ⟨ono1, oio1, ⟨pno1, pho1, ppo1⟩⟩ ht1 th1 he1 el1 ha1 ar1)).length ≤ 100000000000000) :
    Calls Tryz.prog 82 #[.pointer (some ⟨b, 0, none⟩), stV (.mk 0 sp1 sn1 (.mk k1 nm1 h1 l1) ⟨pn1, ph1, pp1⟩ ⟨rk1, rh1, ro1, ⟨pnr1, phr1, ppr1⟩, rn1, rr1⟩ ⟨ono1, oio1, ⟨pno1, pho1, ppo1⟩⟩ ht1 th1 he1 el1 ha1 ar1)] w fun e w' => e = .returned (.tuple #[]) ∧ Stands w0 b tabs (bs0 ++ stT tabs (.mk 0 sp1 sn1 (.mk k1 nm1 h1 l1) ⟨pn1, ph1, pp1⟩ ⟨rk1, rh1, ro1, ⟨pnr1, phr1, ppr1⟩, rn1, rr1⟩ ⟨ono1, oio1, ⟨pno1, pho1, ppo1⟩⟩ ht1 th1 he1 el1 ha1 ar1)) w' ∧ Kp w0.heap.size b w w' := by
  obtain ⟨-, A2, A3, A4, A5, -⟩ := hx
  have hT : stT tabs (.mk 0 sp1 sn1 (.mk k1 nm1 h1 l1) ⟨pn1, ph1, pp1⟩ ⟨rk1, rh1, ro1, ⟨pnr1, phr1, ppr1⟩, rn1, rr1⟩ ⟨ono1, oio1, ⟨pno1, pho1, ppo1⟩⟩ ht1 th1 he1 el1 ha1 ar1) = lineT tabs [⟨#[108, 101, 116, 32]⟩, sn1, ⟨#[58, 32]⟩, strB (tyT (.mk k1 nm1 h1 l1)), ⟨#[32, 61, 32]⟩, strB (setT ⟨rk1, rh1, ro1, ⟨pnr1, phr1, ppr1⟩, rn1, rr1⟩), ⟨#[59]⟩] := by rw [stT, if_pos rfl]
  rw [hT] at hlen ⊢
  have hl0 : (tyT (.mk k1 nm1 h1 l1)).length ≤ 100000000000000 := by
    have h1 := mem_line tabs [⟨#[108, 101, 116, 32]⟩, sn1, ⟨#[58, 32]⟩, strB (tyT (.mk k1 nm1 h1 l1)), ⟨#[32, 61, 32]⟩, strB (setT ⟨rk1, rh1, ro1, ⟨pnr1, phr1, ppr1⟩, rn1, rr1⟩), ⟨#[59]⟩] (strB (tyT (.mk k1 nm1 h1 l1))) (by simp)
    rw [strB_size] at h1
    (try simp only [List.length_append] at hlen)
    omega
  have hc0 : ∀ W, Below w0.heap.size w0 W → Calls Tryz.prog 20 #[tyV (.mk k1 nm1 h1 l1)] W fun e w' => e = .returned (.string (strB (tyT (.mk k1 nm1 h1 l1)))) ∧ Below W.heap.size W w' := fun W hW => type_any n _ W (TyH.below n A2 hW) hl0
  have hl1 : (setT ⟨rk1, rh1, ro1, ⟨pnr1, phr1, ppr1⟩, rn1, rr1⟩).length ≤ 100000000000000 := by
    have h1 := mem_line tabs [⟨#[108, 101, 116, 32]⟩, sn1, ⟨#[58, 32]⟩, strB (tyT (.mk k1 nm1 h1 l1)), ⟨#[32, 61, 32]⟩, strB (setT ⟨rk1, rh1, ro1, ⟨pnr1, phr1, ppr1⟩, rn1, rr1⟩), ⟨#[59]⟩] (strB (setT ⟨rk1, rh1, ro1, ⟨pnr1, phr1, ppr1⟩, rn1, rr1⟩)) (by simp)
    rw [strB_size] at h1
    (try simp only [List.length_append] at hlen)
    omega
  have hc1 : ∀ W, Below w0.heap.size w0 W → Calls Tryz.prog 19 #[rvV ⟨rk1, rh1, ro1, ⟨pnr1, phr1, ppr1⟩, rn1, rr1⟩] W fun e w' => e = .returned (.string (strB (setT ⟨rk1, rh1, ro1, ⟨pnr1, phr1, ppr1⟩, rn1, rr1⟩))) ∧ Below W.heap.size W w' := fun W hW => set_any _ W (A4.below hW) (hV.below hW hV.size) hl1
  generalize strB (tyT (.mk k1 nm1 h1 l1)) = T0 at hc0 hlen hT ⊢
  simp only [tyV, tyC] at hc0
  replace hc0 := Lib.hid hc0
  clear hl0
  generalize strB (setT ⟨rk1, rh1, ro1, ⟨pnr1, phr1, ppr1⟩, rn1, rr1⟩) = T1 at hc1 hlen hT ⊢
  simp only [rvV, rvC, plC, List.cons_append, List.nil_append] at hc1
  replace hc1 := Lib.hid hc1
  clear hl1
  have HL := Lib.hid (show ∀ W : World, Stands w0 b tabs (bs0) W → Calls Tryz.prog 47 #[.pointer (some ⟨b, 0, none⟩), .slice (some ⟨W.heap.size, 0, none⟩) 7 7] (W.alloc (.cells #[.string ⟨#[108, 101, 116, 32]⟩, .string sn1, .string ⟨#[58, 32]⟩, .string T0, .string ⟨#[32, 61, 32]⟩, .string T1, .string ⟨#[59]⟩] 9)) fun e w' => e = .returned (.tuple #[]) ∧ Stands w0 b tabs (bs0 ++ lineT tabs [⟨#[108, 101, 116, 32]⟩, sn1, ⟨#[58, 32]⟩, T0, ⟨#[32, 61, 32]⟩, T1, ⟨#[59]⟩]) w' ∧ Kp w0.heap.size b W w' from fun W h => line_st tabs b 7 (bs0) [⟨#[108, 101, 116, 32]⟩, sn1, ⟨#[58, 32]⟩, T0, ⟨#[32, 61, 32]⟩, T1, ⟨#[59]⟩] W h (by simp) (by (try simp only [List.length_append] at hlen ⊢); omega))
  clear hT A2 A3 A4 A5
  simp only [stV]
  obtain ⟨c1, hc1'⟩ : ∃ c, c = stC (.mk 0 sp1 sn1 (.mk k1 nm1 h1 l1) ⟨pn1, ph1, pp1⟩ ⟨rk1, rh1, ro1, ⟨pnr1, phr1, ppr1⟩, rn1, rr1⟩ ⟨ono1, oio1, ⟨pno1, pho1, ppo1⟩⟩ ht1 th1 he1 el1 ha1 ar1) := ⟨_, rfl⟩
  rw [← hc1']
  have e0 : c1[0]? = some (.int .i64 0) := by rw [hc1']; rfl
  have e2 : c1[2]? = some (.string sn1) := by rw [hc1']; rfl
  have e3 : c1[3]? = some (.int .i64 k1) := by rw [hc1']; rfl
  have e4 : c1[4]? = some (.string nm1) := by rw [hc1']; rfl
  have e5 : c1[5]? = some (.slice h1.oa l1.length h1.cap) := by rw [hc1']; rfl
  have e8 : c1[8]? = some (.int .i64 rk1) := by rw [hc1']; rfl
  have e9 : c1[9]? = some (.slice rh1.oa ro1.length rh1.cap) := by rw [hc1']; rfl
  have e10 : c1[10]? = some (.string pnr1) := by rw [hc1']; rfl
  have e11 : c1[11]? = some (.slice phr1.oa ppr1.length phr1.cap) := by rw [hc1']; rfl
  have e12 : c1[12]? = some (.string rn1) := by rw [hc1']; rfl
  have e13 : c1[13]? = some (.string rr1) := by rw [hc1']; rfl
  clear hc1'
  obtain ⟨W0, hW0⟩ : ∃ W, W = w.alloc (.cells c1.toArray 52) := ⟨_, rfl⟩
  have hx0 : W0.heap[w.heap.size]? = some (.cells c1.toArray 52) := by rw [hW0, heap_alloc_new]
  have hb1 : Below w.heap.size w W0 := by rw [hW0]; exact alloc_below _ _
  have S0 := Lib.hid (hst.call hb1)
  have K0 := Lib.hid (hst.kp hb1)
  have hbb := hst.isB.lt
  obtain ⟨bx, hbx⟩ : ∃ bx, bx = w.heap.size := ⟨_, rfl⟩
  rw [← hbx] at hx0
  have hne : bx ≠ b := by omega
  have HZ := Lib.hid (show ∀ w' : World, w'.heap[bx]? = some (.cells c1.toArray 52) → w'.cell? ⟨bx, 0, none⟩ = some (.int .i64 0) ∧ w'.cell? ⟨bx, 2, none⟩ = some (.string sn1) ∧ w'.cell? ⟨bx, 3, none⟩ = some (.int .i64 k1) ∧ w'.cell? ⟨bx, 4, none⟩ = some (.string nm1) ∧ w'.cell? ⟨bx, 5, none⟩ = some (.slice h1.oa l1.length h1.cap) ∧ w'.cell? ⟨bx, 8, none⟩ = some (.int .i64 rk1) ∧ w'.cell? ⟨bx, 9, none⟩ = some (.slice rh1.oa ro1.length rh1.cap) ∧ w'.cell? ⟨bx, 10, none⟩ = some (.string pnr1) ∧ w'.cell? ⟨bx, 11, none⟩ = some (.slice phr1.oa ppr1.length phr1.cap) ∧ w'.cell? ⟨bx, 12, none⟩ = some (.string rn1) ∧ w'.cell? ⟨bx, 13, none⟩ = some (.string rr1) from fun w' h => ⟨box_cell h e0, box_cell h e2, box_cell h e3, box_cell h e4, box_cell h e5, box_cell h e8, box_cell h e9, box_cell h e10, box_cell h e11, box_cell h e12, box_cell h e13⟩)
  have X0 := Lib.hid hx0
  clear e0 e2 e3 e4 e5 e8 e9 e10 e11 e12 e13 hst
  obtain ⟨y0, y2, y3, y4, y5, y8, y9, y10, y11, y12, y13⟩ := HZ.out W0 X0.out
  go_enter Tryz.func82, Tryz.ntmps82
  go_upto_region 1 with fail
  rw [← hW0, ← hbx]
  clear hW0 hbx hx0 hb1
  go_upto_region 4 with fail
  go_region_held3 (fun w' => w'.cell? ⟨bx, 0, none⟩ = some (.int .i64 0) ∧ w'.cell? ⟨bx, 2, none⟩ = some (.string sn1) ∧ w'.cell? ⟨bx, 3, none⟩ = some (.int .i64 k1) ∧ w'.cell? ⟨bx, 4, none⟩ = some (.string nm1) ∧ w'.cell? ⟨bx, 5, none⟩ = some (.slice h1.oa l1.length h1.cap) ∧ w'.cell? ⟨bx, 8, none⟩ = some (.int .i64 rk1) ∧ w'.cell? ⟨bx, 9, none⟩ = some (.slice rh1.oa ro1.length rh1.cap) ∧ w'.cell? ⟨bx, 10, none⟩ = some (.string pnr1) ∧ w'.cell? ⟨bx, 11, none⟩ = some (.slice phr1.oa ppr1.length phr1.cap) ∧ w'.cell? ⟨bx, 12, none⟩ = some (.string rn1) ∧ w'.cell? ⟨bx, 13, none⟩ = some (.string rr1)) (first | (refine ⟨?_, ?_, ?_, ?_, ?_, ?_, ?_, ?_, ?_, ?_, ?_⟩ <;> assumption) | go_keep)
    (first
      | (go_at_call 20; refine (hc0.out W0.drew S0.out.below.drew).mono ?_; rintro e w1 ⟨rfl, hq'⟩; have hq := below_undrew hq'; have S1 := Lib.hid (S0.out.call hq); have K1 := Lib.hid (K0.out.trans (S0.out.kp hq)); have X1 := Lib.hid (keepB X0.out hq); obtain ⟨z1_0, z1_2, z1_3, z1_4, z1_5, z1_8, z1_9, z1_10, z1_11, z1_12, z1_13⟩ := HZ.out w1 X1.out; clear hq hq')
      | (go_at_call 19; refine (hc1.out w1 S1.out.below).mono ?_; rintro e w2 ⟨rfl, hq⟩; have S2 := Lib.hid (S1.out.call hq); have K2 := Lib.hid (K1.out.trans (S1.out.kp hq)); have X2 := Lib.hid (keepB X1.out hq); obtain ⟨z2_0, z2_2, z2_3, z2_4, z2_5, z2_8, z2_9, z2_10, z2_11, z2_12, z2_13⟩ := HZ.out w2 X2.out; clear hq)
      | (go_at_call 47; refine (HL.out w2 S2.out).mono ?_; rintro e w3 ⟨rfl, hq1, hq2⟩; have S3 := Lib.hid hq1; have K3 := Lib.hid (K2.out.trans hq2); have X3 := Lib.hid (kp_block hq2 X2.out hne (by decide)); obtain ⟨z3_0, z3_2, z3_3, z3_4, z3_5, z3_8, z3_9, z3_10, z3_11, z3_12, z3_13⟩ := HZ.out w3 X3.out; clear hq1 hq2))
  go_wp2
  first | go_end0 | refine bodyPost_ret (results_none rfl _ _ _) rfl ?_
  exact ⟨rfl, S3.out, K3.out⟩

set_option maxRecDepth 100000 in
set_option maxHeartbeats 16000000 in
theorem statementT_1 (n tabs b : Nat) (sp1 : Int) (sn1 : ByteArray) (k1 : Int) (nm1 : ByteArray) (h1 : Hd) (l1 : List Ty5) (pn1 : ByteArray) (ph1 : Hd) (pp1 : List ByteArray) (rk1 : Int) (rh1 : Hd) (ro1 : List Op5) (pnr1 : ByteArray) (phr1 : Hd) (ppr1 : List ByteArray) (rn1 rr1 : ByteArray) (ono1 : Bool) (oio1 : Int) (pno1 : ByteArray) (pho1 : Hd) (ppo1 : List ByteArray) (ht1 : Hd) (th1 : List St5) (he1 : Hd) (el1 : List St5) (ha1 : Hd) (ar1 : List Ar5) (bs0 : List UInt8) (w0 w : World) (hx : StH (n + 1) w0 (.mk 1 sp1 sn1 (.mk k1 nm1 h1 l1) ⟨pn1, ph1, pp1⟩ ⟨rk1, rh1, ro1, ⟨pnr1, phr1, ppr1⟩, rn1, rr1⟩ ⟨ono1, oio1, ⟨pno1, pho1, ppo1⟩⟩ ht1 th1 he1 el1 ha1 ar1)) (hV : Vz w0) (hst : Stands w0 b tabs bs0 w) (hlen : bs0.length + (stT tabs (.mk 1 sp1 sn1 (.mk k1 nm1 h1 l1) ⟨pn1, ph1, pp1⟩ ⟨rk1, rh1, ro1, ⟨pnr1, phr1, ppr1⟩, rn1, rr1⟩ ⟨ono1, oio1, ⟨pno1, pho1, ppo1⟩⟩ ht1 th1 he1 el1 ha1 ar1)).length ≤ 100000000000000) :
    Calls Tryz.prog 82 #[.pointer (some ⟨b, 0, none⟩), stV (.mk 1 sp1 sn1 (.mk k1 nm1 h1 l1) ⟨pn1, ph1, pp1⟩ ⟨rk1, rh1, ro1, ⟨pnr1, phr1, ppr1⟩, rn1, rr1⟩ ⟨ono1, oio1, ⟨pno1, pho1, ppo1⟩⟩ ht1 th1 he1 el1 ha1 ar1)] w fun e w' => e = .returned (.tuple #[]) ∧ Stands w0 b tabs (bs0 ++ stT tabs (.mk 1 sp1 sn1 (.mk k1 nm1 h1 l1) ⟨pn1, ph1, pp1⟩ ⟨rk1, rh1, ro1, ⟨pnr1, phr1, ppr1⟩, rn1, rr1⟩ ⟨ono1, oio1, ⟨pno1, pho1, ppo1⟩⟩ ht1 th1 he1 el1 ha1 ar1)) w' ∧ Kp w0.heap.size b w w' := by
  obtain ⟨-, A2, A3, A4, A5, -⟩ := hx
  have hT : stT tabs (.mk 1 sp1 sn1 (.mk k1 nm1 h1 l1) ⟨pn1, ph1, pp1⟩ ⟨rk1, rh1, ro1, ⟨pnr1, phr1, ppr1⟩, rn1, rr1⟩ ⟨ono1, oio1, ⟨pno1, pho1, ppo1⟩⟩ ht1 th1 he1 el1 ha1 ar1) = lineT tabs [strB (plT ⟨pn1, ph1, pp1⟩), ⟨#[32, 61, 32]⟩, strB (setT ⟨rk1, rh1, ro1, ⟨pnr1, phr1, ppr1⟩, rn1, rr1⟩), ⟨#[59]⟩] := by rw [stT, if_neg (by decide), if_pos rfl]
  rw [hT] at hlen ⊢
  have hl0 : (plT ⟨pn1, ph1, pp1⟩).length ≤ 100000000000000 := by
    have h1 := mem_line tabs [strB (plT ⟨pn1, ph1, pp1⟩), ⟨#[32, 61, 32]⟩, strB (setT ⟨rk1, rh1, ro1, ⟨pnr1, phr1, ppr1⟩, rn1, rr1⟩), ⟨#[59]⟩] (strB (plT ⟨pn1, ph1, pp1⟩)) (by simp)
    rw [strB_size] at h1
    (try simp only [List.length_append] at hlen)
    omega
  have hc0 : ∀ W, Below w0.heap.size w0 W → Calls Tryz.prog 18 #[plV ⟨pn1, ph1, pp1⟩] W fun e w' => e = .returned (.string (strB (plT ⟨pn1, ph1, pp1⟩))) ∧ Below W.heap.size W w' := fun W hW => placeA_any _ W (A3.below hW) hl0
  have hl1 : (setT ⟨rk1, rh1, ro1, ⟨pnr1, phr1, ppr1⟩, rn1, rr1⟩).length ≤ 100000000000000 := by
    have h1 := mem_line tabs [strB (plT ⟨pn1, ph1, pp1⟩), ⟨#[32, 61, 32]⟩, strB (setT ⟨rk1, rh1, ro1, ⟨pnr1, phr1, ppr1⟩, rn1, rr1⟩), ⟨#[59]⟩] (strB (setT ⟨rk1, rh1, ro1, ⟨pnr1, phr1, ppr1⟩, rn1, rr1⟩)) (by simp)
    rw [strB_size] at h1
    (try simp only [List.length_append] at hlen)
    omega
  have hc1 : ∀ W, Below w0.heap.size w0 W → Calls Tryz.prog 19 #[rvV ⟨rk1, rh1, ro1, ⟨pnr1, phr1, ppr1⟩, rn1, rr1⟩] W fun e w' => e = .returned (.string (strB (setT ⟨rk1, rh1, ro1, ⟨pnr1, phr1, ppr1⟩, rn1, rr1⟩))) ∧ Below W.heap.size W w' := fun W hW => set_any _ W (A4.below hW) (hV.below hW hV.size) hl1
  generalize strB (plT ⟨pn1, ph1, pp1⟩) = T0 at hc0 hlen hT ⊢
  simp only [plV, plC] at hc0
  replace hc0 := Lib.hid hc0
  clear hl0
  generalize strB (setT ⟨rk1, rh1, ro1, ⟨pnr1, phr1, ppr1⟩, rn1, rr1⟩) = T1 at hc1 hlen hT ⊢
  simp only [rvV, rvC, plC, List.cons_append, List.nil_append] at hc1
  replace hc1 := Lib.hid hc1
  clear hl1
  have HL := Lib.hid (show ∀ W : World, Stands w0 b tabs (bs0) W → Calls Tryz.prog 47 #[.pointer (some ⟨b, 0, none⟩), .slice (some ⟨W.heap.size, 0, none⟩) 4 4] (W.alloc (.cells #[.string T0, .string ⟨#[32, 61, 32]⟩, .string T1, .string ⟨#[59]⟩] 9)) fun e w' => e = .returned (.tuple #[]) ∧ Stands w0 b tabs (bs0 ++ lineT tabs [T0, ⟨#[32, 61, 32]⟩, T1, ⟨#[59]⟩]) w' ∧ Kp w0.heap.size b W w' from fun W h => line_st tabs b 4 (bs0) [T0, ⟨#[32, 61, 32]⟩, T1, ⟨#[59]⟩] W h (by simp) (by (try simp only [List.length_append] at hlen ⊢); omega))
  clear hT A2 A3 A4 A5
  simp only [stV]
  obtain ⟨c1, hc1'⟩ : ∃ c, c = stC (.mk 1 sp1 sn1 (.mk k1 nm1 h1 l1) ⟨pn1, ph1, pp1⟩ ⟨rk1, rh1, ro1, ⟨pnr1, phr1, ppr1⟩, rn1, rr1⟩ ⟨ono1, oio1, ⟨pno1, pho1, ppo1⟩⟩ ht1 th1 he1 el1 ha1 ar1) := ⟨_, rfl⟩
  rw [← hc1']
  have e0 : c1[0]? = some (.int .i64 1) := by rw [hc1']; rfl
  have e6 : c1[6]? = some (.string pn1) := by rw [hc1']; rfl
  have e7 : c1[7]? = some (.slice ph1.oa pp1.length ph1.cap) := by rw [hc1']; rfl
  have e8 : c1[8]? = some (.int .i64 rk1) := by rw [hc1']; rfl
  have e9 : c1[9]? = some (.slice rh1.oa ro1.length rh1.cap) := by rw [hc1']; rfl
  have e10 : c1[10]? = some (.string pnr1) := by rw [hc1']; rfl
  have e11 : c1[11]? = some (.slice phr1.oa ppr1.length phr1.cap) := by rw [hc1']; rfl
  have e12 : c1[12]? = some (.string rn1) := by rw [hc1']; rfl
  have e13 : c1[13]? = some (.string rr1) := by rw [hc1']; rfl
  clear hc1'
  obtain ⟨W0, hW0⟩ : ∃ W, W = w.alloc (.cells c1.toArray 52) := ⟨_, rfl⟩
  have hx0 : W0.heap[w.heap.size]? = some (.cells c1.toArray 52) := by rw [hW0, heap_alloc_new]
  have hb1 : Below w.heap.size w W0 := by rw [hW0]; exact alloc_below _ _
  have S0 := Lib.hid (hst.call hb1)
  have K0 := Lib.hid (hst.kp hb1)
  have hbb := hst.isB.lt
  obtain ⟨bx, hbx⟩ : ∃ bx, bx = w.heap.size := ⟨_, rfl⟩
  rw [← hbx] at hx0
  have hne : bx ≠ b := by omega
  have HZ := Lib.hid (show ∀ w' : World, w'.heap[bx]? = some (.cells c1.toArray 52) → w'.cell? ⟨bx, 0, none⟩ = some (.int .i64 1) ∧ w'.cell? ⟨bx, 6, none⟩ = some (.string pn1) ∧ w'.cell? ⟨bx, 7, none⟩ = some (.slice ph1.oa pp1.length ph1.cap) ∧ w'.cell? ⟨bx, 8, none⟩ = some (.int .i64 rk1) ∧ w'.cell? ⟨bx, 9, none⟩ = some (.slice rh1.oa ro1.length rh1.cap) ∧ w'.cell? ⟨bx, 10, none⟩ = some (.string pnr1) ∧ w'.cell? ⟨bx, 11, none⟩ = some (.slice phr1.oa ppr1.length phr1.cap) ∧ w'.cell? ⟨bx, 12, none⟩ = some (.string rn1) ∧ w'.cell? ⟨bx, 13, none⟩ = some (.string rr1) from fun w' h => ⟨box_cell h e0, box_cell h e6, box_cell h e7, box_cell h e8, box_cell h e9, box_cell h e10, box_cell h e11, box_cell h e12, box_cell h e13⟩)
  have X0 := Lib.hid hx0
  clear e0 e6 e7 e8 e9 e10 e11 e12 e13 hst
  obtain ⟨y0, y6, y7, y8, y9, y10, y11, y12, y13⟩ := HZ.out W0 X0.out
  go_enter Tryz.func82, Tryz.ntmps82
  go_upto_region 1 with fail
  rw [← hW0, ← hbx]
  clear hW0 hbx hx0 hb1
  go_upto_region 6 with fail
  go_region_held3 (fun w' => w'.cell? ⟨bx, 0, none⟩ = some (.int .i64 1) ∧ w'.cell? ⟨bx, 6, none⟩ = some (.string pn1) ∧ w'.cell? ⟨bx, 7, none⟩ = some (.slice ph1.oa pp1.length ph1.cap) ∧ w'.cell? ⟨bx, 8, none⟩ = some (.int .i64 rk1) ∧ w'.cell? ⟨bx, 9, none⟩ = some (.slice rh1.oa ro1.length rh1.cap) ∧ w'.cell? ⟨bx, 10, none⟩ = some (.string pnr1) ∧ w'.cell? ⟨bx, 11, none⟩ = some (.slice phr1.oa ppr1.length phr1.cap) ∧ w'.cell? ⟨bx, 12, none⟩ = some (.string rn1) ∧ w'.cell? ⟨bx, 13, none⟩ = some (.string rr1)) (first | (refine ⟨?_, ?_, ?_, ?_, ?_, ?_, ?_, ?_, ?_⟩ <;> assumption) | go_keep)
    (first
      | (go_at_call 18; refine (hc0.out W0.drew S0.out.below.drew).mono ?_; rintro e w1 ⟨rfl, hq'⟩; have hq := below_undrew hq'; have S1 := Lib.hid (S0.out.call hq); have K1 := Lib.hid (K0.out.trans (S0.out.kp hq)); have X1 := Lib.hid (keepB X0.out hq); obtain ⟨z1_0, z1_6, z1_7, z1_8, z1_9, z1_10, z1_11, z1_12, z1_13⟩ := HZ.out w1 X1.out; clear hq hq')
      | (go_at_call 19; refine (hc1.out w1 S1.out.below).mono ?_; rintro e w2 ⟨rfl, hq⟩; have S2 := Lib.hid (S1.out.call hq); have K2 := Lib.hid (K1.out.trans (S1.out.kp hq)); have X2 := Lib.hid (keepB X1.out hq); obtain ⟨z2_0, z2_6, z2_7, z2_8, z2_9, z2_10, z2_11, z2_12, z2_13⟩ := HZ.out w2 X2.out; clear hq)
      | (go_at_call 47; refine (HL.out w2 S2.out).mono ?_; rintro e w3 ⟨rfl, hq1, hq2⟩; have S3 := Lib.hid hq1; have K3 := Lib.hid (K2.out.trans hq2); have X3 := Lib.hid (kp_block hq2 X2.out hne (by decide)); obtain ⟨z3_0, z3_6, z3_7, z3_8, z3_9, z3_10, z3_11, z3_12, z3_13⟩ := HZ.out w3 X3.out; clear hq1 hq2))
  go_wp2
  first | go_end0 | refine bodyPost_ret (results_none rfl _ _ _) rfl ?_
  exact ⟨rfl, S3.out, K3.out⟩

def bothT (tabs : Nat) : St5 → List UInt8
  | .mk _ _ _ _ _ _ op _ th _ el _ _ => lineT tabs [⟨#[105, 102, 32]⟩, strB (opT op), ⟨#[32, 123]⟩] ++ rowT stT (tabs + 1) th ++ (if 0 < el.length then lineT tabs [⟨#[125, 32, 101, 108, 115, 101, 32, 123]⟩] ++ rowT stT (tabs + 1) el else []) ++ lineT tabs [⟨#[125]⟩]

set_option maxRecDepth 100000 in
set_option maxHeartbeats 16000000 in
theorem both_yes (n tabs b : Nat) (sk1 sp1 : Int) (sn1 : ByteArray) (k1 : Int) (nm1 : ByteArray) (h1 : Hd) (l1 : List Ty5) (pn1 : ByteArray) (ph1 : Hd) (pp1 : List ByteArray) (rk1 : Int) (rh1 : Hd) (ro1 : List Op5) (pnr1 : ByteArray) (phr1 : Hd) (ppr1 : List ByteArray) (rn1 rr1 : ByteArray) (ono1 : Bool) (oio1 : Int) (pno1 : ByteArray) (pho1 : Hd) (ppo1 : List ByteArray) (ht1 : Hd) (th1 : List St5) (he1 : Hd) (el1 : List St5) (ha1 : Hd) (ar1 : List Ar5) (bs0 : List UInt8) (w0 w : World) (hx : StH (n + 1) w0 (.mk sk1 sp1 sn1 (.mk k1 nm1 h1 l1) ⟨pn1, ph1, pp1⟩ ⟨rk1, rh1, ro1, ⟨pnr1, phr1, ppr1⟩, rn1, rr1⟩ ⟨ono1, oio1, ⟨pno1, pho1, ppo1⟩⟩ ht1 th1 he1 el1 ha1 ar1)) (hV : Vz w0) (hst : Stands w0 b tabs bs0 w) (hlen : bs0.length + (bothT tabs (.mk sk1 sp1 sn1 (.mk k1 nm1 h1 l1) ⟨pn1, ph1, pp1⟩ ⟨rk1, rh1, ro1, ⟨pnr1, phr1, ppr1⟩, rn1, rr1⟩ ⟨ono1, oio1, ⟨pno1, pho1, ppo1⟩⟩ ht1 th1 he1 el1 ha1 ar1)).length ≤ 100000000000000)
    (ihS : ∀ (x : St5) (tabs : Nat) (bs0 : List UInt8) (w : World), StH n w0 x → Stands w0 b tabs bs0 w → bs0.length + (stT tabs x).length ≤ 100000000000000 → Calls Tryz.prog 82 #[.pointer (some ⟨b, 0, none⟩), stV x] w fun e w' => e = .returned (.tuple #[]) ∧ Stands w0 b tabs (bs0 ++ stT tabs x) w' ∧ Kp w0.heap.size b w w') (hel : 0 < el1.length) :
    Calls Tryz.prog 106 #[.pointer (some ⟨b, 0, none⟩), stV (.mk sk1 sp1 sn1 (.mk k1 nm1 h1 l1) ⟨pn1, ph1, pp1⟩ ⟨rk1, rh1, ro1, ⟨pnr1, phr1, ppr1⟩, rn1, rr1⟩ ⟨ono1, oio1, ⟨pno1, pho1, ppo1⟩⟩ ht1 th1 he1 el1 ha1 ar1)] w fun e w' => e = .returned (.tuple #[]) ∧ Stands w0 b tabs (bs0 ++ bothT tabs (.mk sk1 sp1 sn1 (.mk k1 nm1 h1 l1) ⟨pn1, ph1, pp1⟩ ⟨rk1, rh1, ro1, ⟨pnr1, phr1, ppr1⟩, rn1, rr1⟩ ⟨ono1, oio1, ⟨pno1, pho1, ppo1⟩⟩ ht1 th1 he1 el1 ha1 ar1)) w' ∧ Kp w0.heap.size b w w' := by
  obtain ⟨-, A2, A3, A4, A5, A6, A7, -⟩ := hx
  have hT : bothT tabs (.mk sk1 sp1 sn1 (.mk k1 nm1 h1 l1) ⟨pn1, ph1, pp1⟩ ⟨rk1, rh1, ro1, ⟨pnr1, phr1, ppr1⟩, rn1, rr1⟩ ⟨ono1, oio1, ⟨pno1, pho1, ppo1⟩⟩ ht1 th1 he1 el1 ha1 ar1) = lineT tabs [⟨#[105, 102, 32]⟩, strB (opT ⟨ono1, oio1, ⟨pno1, pho1, ppo1⟩⟩), ⟨#[32, 123]⟩] ++ rowT stT (tabs + 1) th1 ++ (lineT tabs [⟨#[125, 32, 101, 108, 115, 101, 32, 123]⟩] ++ rowT stT (tabs + 1) el1) ++ lineT tabs [⟨#[125]⟩] := by rw [bothT, if_pos hel]
  rw [hT] at hlen ⊢
  have hcp := A7.1
  have hcp2 := A7.2.1
  unfold maxLen at hcp2
  have htb := line_tabs tabs [⟨#[105, 102, 32]⟩, strB (opT ⟨ono1, oio1, ⟨pno1, pho1, ppo1⟩⟩), ⟨#[32, 123]⟩]
  have hlen2 := hlen
  simp only [List.length_append] at hlen2
  have hl0 : (opT ⟨ono1, oio1, ⟨pno1, pho1, ppo1⟩⟩).length ≤ 100000000000000 := by
    have h1 := mem_line tabs [⟨#[105, 102, 32]⟩, strB (opT ⟨ono1, oio1, ⟨pno1, pho1, ppo1⟩⟩), ⟨#[32, 123]⟩] (strB (opT ⟨ono1, oio1, ⟨pno1, pho1, ppo1⟩⟩)) (by simp)
    rw [strB_size] at h1
    (try simp only [List.length_append] at hlen)
    omega
  have hc0 : ∀ W, Below w0.heap.size w0 W → Calls Tryz.prog 21 #[opV ⟨ono1, oio1, ⟨pno1, pho1, ppo1⟩⟩] W fun e w' => e = .returned (.string (strB (opT ⟨ono1, oio1, ⟨pno1, pho1, ppo1⟩⟩))) ∧ Below W.heap.size W w' := fun W hW => oper_any _ W (A5.below hW) (hV.below hW hV.size) hl0
  have htt : tabs + 1 ≤ 100000000000000 := by omega
  clear hlen2 htb
  generalize strB (opT ⟨ono1, oio1, ⟨pno1, pho1, ppo1⟩⟩) = T0 at hc0 hlen hT ⊢
  simp only [opV, opC, plC, List.cons_append, List.nil_append] at hc0
  replace hc0 := Lib.hid hc0
  clear hl0
  have HL := Lib.hid (show ∀ W : World, Stands w0 b tabs (bs0) W → Calls Tryz.prog 47 #[.pointer (some ⟨b, 0, none⟩), .slice (some ⟨W.heap.size, 0, none⟩) 3 3] (W.alloc (.cells #[.string ⟨#[105, 102, 32]⟩, .string T0, .string ⟨#[32, 123]⟩] 9)) fun e w' => e = .returned (.tuple #[]) ∧ Stands w0 b tabs (bs0 ++ lineT tabs [⟨#[105, 102, 32]⟩, T0, ⟨#[32, 123]⟩]) w' ∧ Kp w0.heap.size b W w' from fun W h => line_st tabs b 3 (bs0) [⟨#[105, 102, 32]⟩, T0, ⟨#[32, 123]⟩] W h (by simp) (by (try simp only [List.length_append] at hlen ⊢); omega))
  have HRW := Lib.hid (show ∀ W : World, Stands w0 b tabs (bs0 ++ lineT tabs [⟨#[105, 102, 32]⟩, T0, ⟨#[32, 123]⟩]) W → Calls Tryz.prog 52 #[.pointer (some ⟨b, 0, none⟩), .slice ht1.oa th1.length ht1.cap] W fun e w' => e = .returned (.tuple #[]) ∧ Stands w0 b tabs (bs0 ++ lineT tabs [⟨#[105, 102, 32]⟩, T0, ⟨#[32, 123]⟩] ++ rowT stT (tabs + 1) th1) w' ∧ Kp w0.heap.size b W w' from fun W h => (row_step stT (StH n w0) tabs w0.heap.size b (bs0 ++ lineT tabs [⟨#[105, 102, 32]⟩, T0, ⟨#[32, 123]⟩]) ht1 th1 w0 W rfl h.isB h.below A6 (by simp only [List.length_append] at hlen ⊢; omega) (by omega) (fun x hx bs1 w1 h1 h2 h3 => (ihS x (tabs + 1) bs1 w1 (A6.2.2.2 x hx) ⟨h1, h2⟩ h3).mono fun e w' h => ⟨h.1, h.2.1.isB, h.2.2⟩)).mono fun e w' q => ⟨q.1, h.wrote q.2.1 q.2.2, q.2.2⟩)
  have HL3 := Lib.hid (show ∀ W : World, Stands w0 b tabs (bs0 ++ lineT tabs [⟨#[105, 102, 32]⟩, T0, ⟨#[32, 123]⟩] ++ rowT stT (tabs + 1) th1) W → Calls Tryz.prog 47 #[.pointer (some ⟨b, 0, none⟩), .slice (some ⟨W.heap.size, 0, none⟩) 1 1] (W.alloc (.cells #[.string ⟨#[125, 32, 101, 108, 115, 101, 32, 123]⟩] 9)) fun e w' => e = .returned (.tuple #[]) ∧ Stands w0 b tabs (bs0 ++ lineT tabs [⟨#[105, 102, 32]⟩, T0, ⟨#[32, 123]⟩] ++ rowT stT (tabs + 1) th1 ++ lineT tabs [⟨#[125, 32, 101, 108, 115, 101, 32, 123]⟩]) w' ∧ Kp w0.heap.size b W w' from fun W h => line_st tabs b 1 (bs0 ++ lineT tabs [⟨#[105, 102, 32]⟩, T0, ⟨#[32, 123]⟩] ++ rowT stT (tabs + 1) th1) [⟨#[125, 32, 101, 108, 115, 101, 32, 123]⟩] W h (by simp) (by (try simp only [List.length_append] at hlen ⊢); omega))
  have HRE := Lib.hid (show ∀ W : World, Stands w0 b tabs (bs0 ++ lineT tabs [⟨#[105, 102, 32]⟩, T0, ⟨#[32, 123]⟩] ++ rowT stT (tabs + 1) th1 ++ lineT tabs [⟨#[125, 32, 101, 108, 115, 101, 32, 123]⟩]) W → Calls Tryz.prog 52 #[.pointer (some ⟨b, 0, none⟩), .slice he1.oa el1.length he1.cap] W fun e w' => e = .returned (.tuple #[]) ∧ Stands w0 b tabs (bs0 ++ lineT tabs [⟨#[105, 102, 32]⟩, T0, ⟨#[32, 123]⟩] ++ rowT stT (tabs + 1) th1 ++ lineT tabs [⟨#[125, 32, 101, 108, 115, 101, 32, 123]⟩] ++ rowT stT (tabs + 1) el1) w' ∧ Kp w0.heap.size b W w' from fun W h => (row_step stT (StH n w0) tabs w0.heap.size b (bs0 ++ lineT tabs [⟨#[105, 102, 32]⟩, T0, ⟨#[32, 123]⟩] ++ rowT stT (tabs + 1) th1 ++ lineT tabs [⟨#[125, 32, 101, 108, 115, 101, 32, 123]⟩]) he1 el1 w0 W rfl h.isB h.below A7 (by simp only [List.length_append] at hlen ⊢; omega) (by omega) (fun x hx bs1 w1 h1 h2 h3 => (ihS x (tabs + 1) bs1 w1 (A7.2.2.2 x hx) ⟨h1, h2⟩ h3).mono fun e w' h => ⟨h.1, h.2.1.isB, h.2.2⟩)).mono fun e w' q => ⟨q.1, h.wrote q.2.1 q.2.2, q.2.2⟩)
  have HL2 := Lib.hid (show ∀ W : World, Stands w0 b tabs (bs0 ++ lineT tabs [⟨#[105, 102, 32]⟩, T0, ⟨#[32, 123]⟩] ++ rowT stT (tabs + 1) th1 ++ lineT tabs [⟨#[125, 32, 101, 108, 115, 101, 32, 123]⟩] ++ rowT stT (tabs + 1) el1) W → Calls Tryz.prog 47 #[.pointer (some ⟨b, 0, none⟩), .slice (some ⟨W.heap.size, 0, none⟩) 1 1] (W.alloc (.cells #[.string ⟨#[125]⟩] 9)) fun e w' => e = .returned (.tuple #[]) ∧ Stands w0 b tabs (bs0 ++ lineT tabs [⟨#[105, 102, 32]⟩, T0, ⟨#[32, 123]⟩] ++ rowT stT (tabs + 1) th1 ++ lineT tabs [⟨#[125, 32, 101, 108, 115, 101, 32, 123]⟩] ++ rowT stT (tabs + 1) el1 ++ lineT tabs [⟨#[125]⟩]) w' ∧ Kp w0.heap.size b W w' from fun W h => line_st tabs b 1 (bs0 ++ lineT tabs [⟨#[105, 102, 32]⟩, T0, ⟨#[32, 123]⟩] ++ rowT stT (tabs + 1) th1 ++ lineT tabs [⟨#[125, 32, 101, 108, 115, 101, 32, 123]⟩] ++ rowT stT (tabs + 1) el1) [⟨#[125]⟩] W h (by simp) (by (try simp only [List.length_append] at hlen ⊢); omega))
  clear hT A2 A3 A4 A5 A6 A7 ihS
  simp only [stV]
  obtain ⟨c1, hc1'⟩ : ∃ c, c = stC (.mk sk1 sp1 sn1 (.mk k1 nm1 h1 l1) ⟨pn1, ph1, pp1⟩ ⟨rk1, rh1, ro1, ⟨pnr1, phr1, ppr1⟩, rn1, rr1⟩ ⟨ono1, oio1, ⟨pno1, pho1, ppo1⟩⟩ ht1 th1 he1 el1 ha1 ar1) := ⟨_, rfl⟩
  rw [← hc1']
  have e14 : c1[14]? = some (.bool ono1) := by rw [hc1']; rfl
  have e15 : c1[15]? = some (.int .i64 oio1) := by rw [hc1']; rfl
  have e16 : c1[16]? = some (.string pno1) := by rw [hc1']; rfl
  have e17 : c1[17]? = some (.slice pho1.oa ppo1.length pho1.cap) := by rw [hc1']; rfl
  have e18 : c1[18]? = some (.slice ht1.oa th1.length ht1.cap) := by rw [hc1']; rfl
  have e19 : c1[19]? = some (.slice he1.oa el1.length he1.cap) := by rw [hc1']; rfl
  clear hc1'
  obtain ⟨W0, hW0⟩ : ∃ W, W = w.alloc (.cells c1.toArray 52) := ⟨_, rfl⟩
  have hx0 : W0.heap[w.heap.size]? = some (.cells c1.toArray 52) := by rw [hW0, heap_alloc_new]
  have hb1 : Below w.heap.size w W0 := by rw [hW0]; exact alloc_below _ _
  have S0 := Lib.hid (hst.call hb1)
  have K0 := Lib.hid (hst.kp hb1)
  have hbb := hst.isB.lt
  obtain ⟨bx, hbx⟩ : ∃ bx, bx = w.heap.size := ⟨_, rfl⟩
  rw [← hbx] at hx0
  have hne : bx ≠ b := by omega
  have HZ := Lib.hid (show ∀ w' : World, w'.heap[bx]? = some (.cells c1.toArray 52) → w'.cell? ⟨bx, 14, none⟩ = some (.bool ono1) ∧ w'.cell? ⟨bx, 15, none⟩ = some (.int .i64 oio1) ∧ w'.cell? ⟨bx, 16, none⟩ = some (.string pno1) ∧ w'.cell? ⟨bx, 17, none⟩ = some (.slice pho1.oa ppo1.length pho1.cap) ∧ w'.cell? ⟨bx, 18, none⟩ = some (.slice ht1.oa th1.length ht1.cap) ∧ w'.cell? ⟨bx, 19, none⟩ = some (.slice he1.oa el1.length he1.cap) from fun w' h => ⟨box_cell h e14, box_cell h e15, box_cell h e16, box_cell h e17, box_cell h e18, box_cell h e19⟩)
  have X0 := Lib.hid hx0
  clear e14 e15 e16 e17 e18 e19 hst
  obtain ⟨y14, y15, y16, y17, y18, y19⟩ := HZ.out W0 X0.out
  go_enter Tryz.func106, Tryz.ntmps106
  go_upto_region 1 with fail
  rw [← hW0, ← hbx]
  clear hW0 hbx hx0 hb1
  go_wp2_with fail
  refine (hc0.out _ S0.out.below).mono ?_
  rintro e w1 ⟨rfl, hq⟩
  have S1 := Lib.hid (S0.out.call hq)
  have K1 := Lib.hid (K0.out.trans (S0.out.kp hq))
  have X1 := Lib.hid (keepB X0.out hq)
  obtain ⟨z1_14, z1_15, z1_16, z1_17, z1_18, z1_19⟩ := HZ.out w1 X1.out
  clear hq
  go_wp2_with fail
  refine (HL.out _ S1.out).mono ?_
  rintro e w2 ⟨rfl, hq1, hq2⟩
  have S2 := Lib.hid hq1
  have K2 := Lib.hid (K1.out.trans hq2)
  have X2 := Lib.hid (kp_block hq2 X1.out hne (by decide))
  obtain ⟨z2_14, z2_15, z2_16, z2_17, z2_18, z2_19⟩ := HZ.out w2 X2.out
  clear hq1 hq2
  go_wp2_with fail
  refine (HRW.out _ S2.out).mono ?_
  rintro e w3 ⟨rfl, hq1, hq2⟩
  have S3 := Lib.hid hq1
  have K3 := Lib.hid (K2.out.trans hq2)
  have X3 := Lib.hid (kp_block hq2 X2.out hne (by decide))
  obtain ⟨z3_14, z3_15, z3_16, z3_17, z3_18, z3_19⟩ := HZ.out w3 X3.out
  clear hq1 hq2
  go_wp2_with fail
  refine (HL3.out _ S3.out).mono ?_
  rintro e w4 ⟨rfl, hq1, hq2⟩
  have S4 := Lib.hid hq1
  have K4 := Lib.hid (K3.out.trans hq2)
  have X4 := Lib.hid (kp_block hq2 X3.out hne (by decide))
  obtain ⟨z4_14, z4_15, z4_16, z4_17, z4_18, z4_19⟩ := HZ.out w4 X4.out
  clear hq1 hq2
  go_wp2_with fail
  refine (HRE.out _ S4.out).mono ?_
  rintro e w5 ⟨rfl, hq1, hq2⟩
  have S5 := Lib.hid hq1
  have K5 := Lib.hid (K4.out.trans hq2)
  have X5 := Lib.hid (kp_block hq2 X4.out hne (by decide))
  obtain ⟨z5_14, z5_15, z5_16, z5_17, z5_18, z5_19⟩ := HZ.out w5 X5.out
  clear hq1 hq2
  go_wp2_with fail
  refine (HL2.out _ S5.out).mono ?_
  rintro e w6 ⟨rfl, hq1, hq2⟩
  have S6 := Lib.hid hq1
  have K6 := Lib.hid (K5.out.trans hq2)
  have X6 := Lib.hid (kp_block hq2 X5.out hne (by decide))
  clear hq1 hq2
  go_wp2
  first | go_end0 | refine bodyPost_ret (results_none rfl _ _ _) rfl ?_
  exact ⟨rfl, by simpa only [List.append_assoc] using S6.out, K6.out⟩

set_option maxRecDepth 100000 in
set_option maxHeartbeats 16000000 in
theorem both_no (n tabs b : Nat) (sk1 sp1 : Int) (sn1 : ByteArray) (k1 : Int) (nm1 : ByteArray) (h1 : Hd) (l1 : List Ty5) (pn1 : ByteArray) (ph1 : Hd) (pp1 : List ByteArray) (rk1 : Int) (rh1 : Hd) (ro1 : List Op5) (pnr1 : ByteArray) (phr1 : Hd) (ppr1 : List ByteArray) (rn1 rr1 : ByteArray) (ono1 : Bool) (oio1 : Int) (pno1 : ByteArray) (pho1 : Hd) (ppo1 : List ByteArray) (ht1 : Hd) (th1 : List St5) (he1 : Hd) (el1 : List St5) (ha1 : Hd) (ar1 : List Ar5) (bs0 : List UInt8) (w0 w : World) (hx : StH (n + 1) w0 (.mk sk1 sp1 sn1 (.mk k1 nm1 h1 l1) ⟨pn1, ph1, pp1⟩ ⟨rk1, rh1, ro1, ⟨pnr1, phr1, ppr1⟩, rn1, rr1⟩ ⟨ono1, oio1, ⟨pno1, pho1, ppo1⟩⟩ ht1 th1 he1 el1 ha1 ar1)) (hV : Vz w0) (hst : Stands w0 b tabs bs0 w) (hlen : bs0.length + (bothT tabs (.mk sk1 sp1 sn1 (.mk k1 nm1 h1 l1) ⟨pn1, ph1, pp1⟩ ⟨rk1, rh1, ro1, ⟨pnr1, phr1, ppr1⟩, rn1, rr1⟩ ⟨ono1, oio1, ⟨pno1, pho1, ppo1⟩⟩ ht1 th1 he1 el1 ha1 ar1)).length ≤ 100000000000000)
    (ihS : ∀ (x : St5) (tabs : Nat) (bs0 : List UInt8) (w : World), StH n w0 x → Stands w0 b tabs bs0 w → bs0.length + (stT tabs x).length ≤ 100000000000000 → Calls Tryz.prog 82 #[.pointer (some ⟨b, 0, none⟩), stV x] w fun e w' => e = .returned (.tuple #[]) ∧ Stands w0 b tabs (bs0 ++ stT tabs x) w' ∧ Kp w0.heap.size b w w') (hel : ¬ 0 < el1.length) :
    Calls Tryz.prog 106 #[.pointer (some ⟨b, 0, none⟩), stV (.mk sk1 sp1 sn1 (.mk k1 nm1 h1 l1) ⟨pn1, ph1, pp1⟩ ⟨rk1, rh1, ro1, ⟨pnr1, phr1, ppr1⟩, rn1, rr1⟩ ⟨ono1, oio1, ⟨pno1, pho1, ppo1⟩⟩ ht1 th1 he1 el1 ha1 ar1)] w fun e w' => e = .returned (.tuple #[]) ∧ Stands w0 b tabs (bs0 ++ bothT tabs (.mk sk1 sp1 sn1 (.mk k1 nm1 h1 l1) ⟨pn1, ph1, pp1⟩ ⟨rk1, rh1, ro1, ⟨pnr1, phr1, ppr1⟩, rn1, rr1⟩ ⟨ono1, oio1, ⟨pno1, pho1, ppo1⟩⟩ ht1 th1 he1 el1 ha1 ar1)) w' ∧ Kp w0.heap.size b w w' := by
  obtain ⟨-, A2, A3, A4, A5, A6, A7, -⟩ := hx
  have hT : bothT tabs (.mk sk1 sp1 sn1 (.mk k1 nm1 h1 l1) ⟨pn1, ph1, pp1⟩ ⟨rk1, rh1, ro1, ⟨pnr1, phr1, ppr1⟩, rn1, rr1⟩ ⟨ono1, oio1, ⟨pno1, pho1, ppo1⟩⟩ ht1 th1 he1 el1 ha1 ar1) = lineT tabs [⟨#[105, 102, 32]⟩, strB (opT ⟨ono1, oio1, ⟨pno1, pho1, ppo1⟩⟩), ⟨#[32, 123]⟩] ++ rowT stT (tabs + 1) th1 ++ lineT tabs [⟨#[125]⟩] := by rw [bothT, if_neg hel, List.append_nil]
  rw [hT] at hlen ⊢
  have hcp := A7.1
  have hcp2 := A7.2.1
  unfold maxLen at hcp2
  have htb := line_tabs tabs [⟨#[105, 102, 32]⟩, strB (opT ⟨ono1, oio1, ⟨pno1, pho1, ppo1⟩⟩), ⟨#[32, 123]⟩]
  have hlen2 := hlen
  simp only [List.length_append] at hlen2
  have hl0 : (opT ⟨ono1, oio1, ⟨pno1, pho1, ppo1⟩⟩).length ≤ 100000000000000 := by
    have h1 := mem_line tabs [⟨#[105, 102, 32]⟩, strB (opT ⟨ono1, oio1, ⟨pno1, pho1, ppo1⟩⟩), ⟨#[32, 123]⟩] (strB (opT ⟨ono1, oio1, ⟨pno1, pho1, ppo1⟩⟩)) (by simp)
    rw [strB_size] at h1
    (try simp only [List.length_append] at hlen)
    omega
  have hc0 : ∀ W, Below w0.heap.size w0 W → Calls Tryz.prog 21 #[opV ⟨ono1, oio1, ⟨pno1, pho1, ppo1⟩⟩] W fun e w' => e = .returned (.string (strB (opT ⟨ono1, oio1, ⟨pno1, pho1, ppo1⟩⟩))) ∧ Below W.heap.size W w' := fun W hW => oper_any _ W (A5.below hW) (hV.below hW hV.size) hl0
  have htt : tabs + 1 ≤ 100000000000000 := by omega
  clear hlen2 htb
  generalize strB (opT ⟨ono1, oio1, ⟨pno1, pho1, ppo1⟩⟩) = T0 at hc0 hlen hT ⊢
  simp only [opV, opC, plC, List.cons_append, List.nil_append] at hc0
  replace hc0 := Lib.hid hc0
  clear hl0
  have HL := Lib.hid (show ∀ W : World, Stands w0 b tabs (bs0) W → Calls Tryz.prog 47 #[.pointer (some ⟨b, 0, none⟩), .slice (some ⟨W.heap.size, 0, none⟩) 3 3] (W.alloc (.cells #[.string ⟨#[105, 102, 32]⟩, .string T0, .string ⟨#[32, 123]⟩] 9)) fun e w' => e = .returned (.tuple #[]) ∧ Stands w0 b tabs (bs0 ++ lineT tabs [⟨#[105, 102, 32]⟩, T0, ⟨#[32, 123]⟩]) w' ∧ Kp w0.heap.size b W w' from fun W h => line_st tabs b 3 (bs0) [⟨#[105, 102, 32]⟩, T0, ⟨#[32, 123]⟩] W h (by simp) (by (try simp only [List.length_append] at hlen ⊢); omega))
  have HRW := Lib.hid (show ∀ W : World, Stands w0 b tabs (bs0 ++ lineT tabs [⟨#[105, 102, 32]⟩, T0, ⟨#[32, 123]⟩]) W → Calls Tryz.prog 52 #[.pointer (some ⟨b, 0, none⟩), .slice ht1.oa th1.length ht1.cap] W fun e w' => e = .returned (.tuple #[]) ∧ Stands w0 b tabs (bs0 ++ lineT tabs [⟨#[105, 102, 32]⟩, T0, ⟨#[32, 123]⟩] ++ rowT stT (tabs + 1) th1) w' ∧ Kp w0.heap.size b W w' from fun W h => (row_step stT (StH n w0) tabs w0.heap.size b (bs0 ++ lineT tabs [⟨#[105, 102, 32]⟩, T0, ⟨#[32, 123]⟩]) ht1 th1 w0 W rfl h.isB h.below A6 (by simp only [List.length_append] at hlen ⊢; omega) (by omega) (fun x hx bs1 w1 h1 h2 h3 => (ihS x (tabs + 1) bs1 w1 (A6.2.2.2 x hx) ⟨h1, h2⟩ h3).mono fun e w' h => ⟨h.1, h.2.1.isB, h.2.2⟩)).mono fun e w' q => ⟨q.1, h.wrote q.2.1 q.2.2, q.2.2⟩)
  have HL2 := Lib.hid (show ∀ W : World, Stands w0 b tabs (bs0 ++ lineT tabs [⟨#[105, 102, 32]⟩, T0, ⟨#[32, 123]⟩] ++ rowT stT (tabs + 1) th1) W → Calls Tryz.prog 47 #[.pointer (some ⟨b, 0, none⟩), .slice (some ⟨W.heap.size, 0, none⟩) 1 1] (W.alloc (.cells #[.string ⟨#[125]⟩] 9)) fun e w' => e = .returned (.tuple #[]) ∧ Stands w0 b tabs (bs0 ++ lineT tabs [⟨#[105, 102, 32]⟩, T0, ⟨#[32, 123]⟩] ++ rowT stT (tabs + 1) th1 ++ lineT tabs [⟨#[125]⟩]) w' ∧ Kp w0.heap.size b W w' from fun W h => line_st tabs b 1 (bs0 ++ lineT tabs [⟨#[105, 102, 32]⟩, T0, ⟨#[32, 123]⟩] ++ rowT stT (tabs + 1) th1) [⟨#[125]⟩] W h (by simp) (by (try simp only [List.length_append] at hlen ⊢); omega))
  clear hT A2 A3 A4 A5 A6 A7 ihS
  simp only [stV]
  obtain ⟨c1, hc1'⟩ : ∃ c, c = stC (.mk sk1 sp1 sn1 (.mk k1 nm1 h1 l1) ⟨pn1, ph1, pp1⟩ ⟨rk1, rh1, ro1, ⟨pnr1, phr1, ppr1⟩, rn1, rr1⟩ ⟨ono1, oio1, ⟨pno1, pho1, ppo1⟩⟩ ht1 th1 he1 el1 ha1 ar1) := ⟨_, rfl⟩
  rw [← hc1']
  have e14 : c1[14]? = some (.bool ono1) := by rw [hc1']; rfl
  have e15 : c1[15]? = some (.int .i64 oio1) := by rw [hc1']; rfl
  have e16 : c1[16]? = some (.string pno1) := by rw [hc1']; rfl
  have e17 : c1[17]? = some (.slice pho1.oa ppo1.length pho1.cap) := by rw [hc1']; rfl
  have e18 : c1[18]? = some (.slice ht1.oa th1.length ht1.cap) := by rw [hc1']; rfl
  have e19 : c1[19]? = some (.slice he1.oa el1.length he1.cap) := by rw [hc1']; rfl
  clear hc1'
  obtain ⟨W0, hW0⟩ : ∃ W, W = w.alloc (.cells c1.toArray 52) := ⟨_, rfl⟩
  have hx0 : W0.heap[w.heap.size]? = some (.cells c1.toArray 52) := by rw [hW0, heap_alloc_new]
  have hb1 : Below w.heap.size w W0 := by rw [hW0]; exact alloc_below _ _
  have S0 := Lib.hid (hst.call hb1)
  have K0 := Lib.hid (hst.kp hb1)
  have hbb := hst.isB.lt
  obtain ⟨bx, hbx⟩ : ∃ bx, bx = w.heap.size := ⟨_, rfl⟩
  rw [← hbx] at hx0
  have hne : bx ≠ b := by omega
  have HZ := Lib.hid (show ∀ w' : World, w'.heap[bx]? = some (.cells c1.toArray 52) → w'.cell? ⟨bx, 14, none⟩ = some (.bool ono1) ∧ w'.cell? ⟨bx, 15, none⟩ = some (.int .i64 oio1) ∧ w'.cell? ⟨bx, 16, none⟩ = some (.string pno1) ∧ w'.cell? ⟨bx, 17, none⟩ = some (.slice pho1.oa ppo1.length pho1.cap) ∧ w'.cell? ⟨bx, 18, none⟩ = some (.slice ht1.oa th1.length ht1.cap) ∧ w'.cell? ⟨bx, 19, none⟩ = some (.slice he1.oa el1.length he1.cap) from fun w' h => ⟨box_cell h e14, box_cell h e15, box_cell h e16, box_cell h e17, box_cell h e18, box_cell h e19⟩)
  have X0 := Lib.hid hx0
  clear e14 e15 e16 e17 e18 e19 hst
  obtain ⟨y14, y15, y16, y17, y18, y19⟩ := HZ.out W0 X0.out
  go_enter Tryz.func106, Tryz.ntmps106
  go_upto_region 1 with fail
  rw [← hW0, ← hbx]
  clear hW0 hbx hx0 hb1
  go_wp2_with fail
  refine (hc0.out _ S0.out.below).mono ?_
  rintro e w1 ⟨rfl, hq⟩
  have S1 := Lib.hid (S0.out.call hq)
  have K1 := Lib.hid (K0.out.trans (S0.out.kp hq))
  have X1 := Lib.hid (keepB X0.out hq)
  obtain ⟨z1_14, z1_15, z1_16, z1_17, z1_18, z1_19⟩ := HZ.out w1 X1.out
  clear hq
  go_wp2_with fail
  refine (HL.out _ S1.out).mono ?_
  rintro e w2 ⟨rfl, hq1, hq2⟩
  have S2 := Lib.hid hq1
  have K2 := Lib.hid (K1.out.trans hq2)
  have X2 := Lib.hid (kp_block hq2 X1.out hne (by decide))
  obtain ⟨z2_14, z2_15, z2_16, z2_17, z2_18, z2_19⟩ := HZ.out w2 X2.out
  clear hq1 hq2
  go_wp2_with fail
  refine (HRW.out _ S2.out).mono ?_
  rintro e w3 ⟨rfl, hq1, hq2⟩
  have S3 := Lib.hid hq1
  have K3 := Lib.hid (K2.out.trans hq2)
  have X3 := Lib.hid (kp_block hq2 X2.out hne (by decide))
  obtain ⟨z3_14, z3_15, z3_16, z3_17, z3_18, z3_19⟩ := HZ.out w3 X3.out
  clear hq1 hq2
  go_wp2_with fail
  refine (HL2.out _ S3.out).mono ?_
  rintro e w4 ⟨rfl, hq1, hq2⟩
  have S4 := Lib.hid hq1
  have K4 := Lib.hid (K3.out.trans hq2)
  have X4 := Lib.hid (kp_block hq2 X3.out hne (by decide))
  clear hq1 hq2
  go_wp2
  first | go_end0 | refine bodyPost_ret (results_none rfl _ _ _) rfl ?_
  exact ⟨rfl, by simpa only [List.append_assoc] using S4.out, K4.out⟩

set_option maxRecDepth 100000 in
set_option maxHeartbeats 16000000 in
theorem statementT_2 (n tabs b : Nat) (sp1 : Int) (sn1 : ByteArray) (k1 : Int) (nm1 : ByteArray) (h1 : Hd) (l1 : List Ty5) (pn1 : ByteArray) (ph1 : Hd) (pp1 : List ByteArray) (rk1 : Int) (rh1 : Hd) (ro1 : List Op5) (pnr1 : ByteArray) (phr1 : Hd) (ppr1 : List ByteArray) (rn1 rr1 : ByteArray) (ono1 : Bool) (oio1 : Int) (pno1 : ByteArray) (pho1 : Hd) (ppo1 : List ByteArray) (ht1 : Hd) (th1 : List St5) (he1 : Hd) (el1 : List St5) (ha1 : Hd) (ar1 : List Ar5) (bs0 : List UInt8) (w0 w : World) (hx : StH (n + 1) w0 (.mk 2 sp1 sn1 (.mk k1 nm1 h1 l1) ⟨pn1, ph1, pp1⟩ ⟨rk1, rh1, ro1, ⟨pnr1, phr1, ppr1⟩, rn1, rr1⟩ ⟨ono1, oio1, ⟨pno1, pho1, ppo1⟩⟩ ht1 th1 he1 el1 ha1 ar1)) (hV : Vz w0) (hst : Stands w0 b tabs bs0 w) (hlen : bs0.length + (stT tabs (.mk 2 sp1 sn1 (.mk k1 nm1 h1 l1) ⟨pn1, ph1, pp1⟩ ⟨rk1, rh1, ro1, ⟨pnr1, phr1, ppr1⟩, rn1, rr1⟩ ⟨ono1, oio1, ⟨pno1, pho1, ppo1⟩⟩ ht1 th1 he1 el1 ha1 ar1)).length ≤ 100000000000000)
    (ihS : ∀ (x : St5) (tabs : Nat) (bs0 : List UInt8) (w : World), StH n w0 x → Stands w0 b tabs bs0 w → bs0.length + (stT tabs x).length ≤ 100000000000000 → Calls Tryz.prog 82 #[.pointer (some ⟨b, 0, none⟩), stV x] w fun e w' => e = .returned (.tuple #[]) ∧ Stands w0 b tabs (bs0 ++ stT tabs x) w' ∧ Kp w0.heap.size b w w') :
    Calls Tryz.prog 82 #[.pointer (some ⟨b, 0, none⟩), stV (.mk 2 sp1 sn1 (.mk k1 nm1 h1 l1) ⟨pn1, ph1, pp1⟩ ⟨rk1, rh1, ro1, ⟨pnr1, phr1, ppr1⟩, rn1, rr1⟩ ⟨ono1, oio1, ⟨pno1, pho1, ppo1⟩⟩ ht1 th1 he1 el1 ha1 ar1)] w fun e w' => e = .returned (.tuple #[]) ∧ Stands w0 b tabs (bs0 ++ stT tabs (.mk 2 sp1 sn1 (.mk k1 nm1 h1 l1) ⟨pn1, ph1, pp1⟩ ⟨rk1, rh1, ro1, ⟨pnr1, phr1, ppr1⟩, rn1, rr1⟩ ⟨ono1, oio1, ⟨pno1, pho1, ppo1⟩⟩ ht1 th1 he1 el1 ha1 ar1)) w' ∧ Kp w0.heap.size b w w' := by
  have hT : stT tabs (.mk 2 sp1 sn1 (.mk k1 nm1 h1 l1) ⟨pn1, ph1, pp1⟩ ⟨rk1, rh1, ro1, ⟨pnr1, phr1, ppr1⟩, rn1, rr1⟩ ⟨ono1, oio1, ⟨pno1, pho1, ppo1⟩⟩ ht1 th1 he1 el1 ha1 ar1) = bothT tabs (.mk 2 sp1 sn1 (.mk k1 nm1 h1 l1) ⟨pn1, ph1, pp1⟩ ⟨rk1, rh1, ro1, ⟨pnr1, phr1, ppr1⟩, rn1, rr1⟩ ⟨ono1, oio1, ⟨pno1, pho1, ppo1⟩⟩ ht1 th1 he1 el1 ha1 ar1) := by rw [stT, if_neg (by decide), if_neg (by decide), if_pos rfl, stsT_eq, stsT_eq, bothT]
  rw [hT] at hlen ⊢
  clear hT
  have hcall : ∀ W, Stands w0 b tabs bs0 W → Calls Tryz.prog 106 #[.pointer (some ⟨b, 0, none⟩), stV (.mk 2 sp1 sn1 (.mk k1 nm1 h1 l1) ⟨pn1, ph1, pp1⟩ ⟨rk1, rh1, ro1, ⟨pnr1, phr1, ppr1⟩, rn1, rr1⟩ ⟨ono1, oio1, ⟨pno1, pho1, ppo1⟩⟩ ht1 th1 he1 el1 ha1 ar1)] W fun e w' => e = .returned (.tuple #[]) ∧ Stands w0 b tabs (bs0 ++ bothT tabs (.mk 2 sp1 sn1 (.mk k1 nm1 h1 l1) ⟨pn1, ph1, pp1⟩ ⟨rk1, rh1, ro1, ⟨pnr1, phr1, ppr1⟩, rn1, rr1⟩ ⟨ono1, oio1, ⟨pno1, pho1, ppo1⟩⟩ ht1 th1 he1 el1 ha1 ar1)) w' ∧ Kp w0.heap.size b W w' := fun W hW => by
    by_cases hel : 0 < el1.length
    · exact both_yes n tabs b  2 sp1 sn1 k1 nm1 h1 l1 pn1 ph1 pp1 rk1 rh1 ro1 pnr1 phr1 ppr1 rn1 rr1 ono1 oio1 pno1 pho1 ppo1 ht1 th1 he1 el1 ha1 ar1 bs0 w0 W hx hV hW hlen ihS hel
    · exact both_no n tabs b 2 sp1 sn1 k1 nm1 h1 l1 pn1 ph1 pp1 rk1 rh1 ro1 pnr1 phr1 ppr1 rn1 rr1 ono1 oio1 pno1 pho1 ppo1 ht1 th1 he1 el1 ha1 ar1 bs0 w0 W hx hV hW hlen ihS hel
  simp only [stV] at hcall
  generalize bothT tabs (.mk 2 sp1 sn1 (.mk k1 nm1 h1 l1) ⟨pn1, ph1, pp1⟩ ⟨rk1, rh1, ro1, ⟨pnr1, phr1, ppr1⟩, rn1, rr1⟩ ⟨ono1, oio1, ⟨pno1, pho1, ppo1⟩⟩ ht1 th1 he1 el1 ha1 ar1) = BT at hcall ⊢
  clear hlen ihS hx hV
  simp only [stV]
  obtain ⟨c1, hc1'⟩ : ∃ c, c = stC (.mk 2 sp1 sn1 (.mk k1 nm1 h1 l1) ⟨pn1, ph1, pp1⟩ ⟨rk1, rh1, ro1, ⟨pnr1, phr1, ppr1⟩, rn1, rr1⟩ ⟨ono1, oio1, ⟨pno1, pho1, ppo1⟩⟩ ht1 th1 he1 el1 ha1 ar1) := ⟨_, rfl⟩
  rw [← hc1'] at hcall ⊢
  have e0 : c1[0]? = some (.int .i64 2) := by rw [hc1']; rfl
  have hci : (Tryz.prog.info? 52).map (·.size) = some c1.length := by rw [hc1']; exact stC_info _
  clear hc1'
  obtain ⟨W0, hW0⟩ : ∃ W, W = w.alloc (.cells c1.toArray 52) := ⟨_, rfl⟩
  have hx0 : W0.heap[w.heap.size]? = some (.cells c1.toArray 52) := by rw [hW0, heap_alloc_new]
  have hb1 : Below w.heap.size w W0 := by rw [hW0]; exact alloc_below _ _
  have S0 := Lib.hid (hst.call hb1)
  have K0 := Lib.hid (hst.kp hb1)
  have hbb := hst.isB.lt
  obtain ⟨bx, hbx⟩ : ∃ bx, bx = w.heap.size := ⟨_, rfl⟩
  rw [← hbx] at hx0
  have hne : bx ≠ b := by omega
  have HZ := Lib.hid (show ∀ w' : World, w'.heap[bx]? = some (.cells c1.toArray 52) → w'.cell? ⟨bx, 0, none⟩ = some (.int .i64 2) from fun w' h => box_cell h e0)
  have X0 := Lib.hid hx0
  clear e0 hst
  have y0 := HZ.out W0 X0.out
  have hr0 := Lib.hid (show W0.rangeAt bx 0 c1 from rangeAt_of_box hx0)
  replace hcall := Lib.hid hcall
  go_enter Tryz.func82, Tryz.ntmps82
  go_upto_region 1 with fail
  rw [← hW0, ← hbx]
  clear hW0 hbx hx0 hb1
  go_wp2_with (first
    | (refine wpList_load_mid rfl 52 (.tmp 3) rfl bx 0 rfl c1 _ hr0.out Tryz.underlying52 rfl hci ?_)
    | (go_at_call 106; refine (hcall.out _ S0.out).mono ?_; rintro e w1 ⟨rfl, hq1, hq2⟩; have S1 := Lib.hid hq1; have K1 := Lib.hid (K0.out.trans hq2); clear hq1 hq2))
  first | go_end0 | refine bodyPost_ret (results_none rfl _ _ _) rfl ?_
  exact ⟨rfl, S1.out, K1.out⟩

theorem arH_rows {n : Nat} {w : World} {av ab : ByteArray} {ah : Hd} {ay : List St5} (h : ArH n w (.mk av ab ah ay)) : Row w ah 21 ay stC (StH n w) := by
  cases n with
  | zero => exact h.elim
  | succ m => exact Row.mono h fun _ _ hx => StH.le (Nat.le_succ _) hx

set_option maxRecDepth 100000 in
set_option maxHeartbeats 16000000 in
theorem arms_of (n b : Nat) (w0 : World)
    (ihS : ∀ (x : St5) (tabs : Nat) (bs0 : List UInt8) (w : World), StH n w0 x → Stands w0 b tabs bs0 w → bs0.length + (stT tabs x).length ≤ 100000000000000 → Calls Tryz.prog 82 #[.pointer (some ⟨b, 0, none⟩), stV x] w fun e w' => e = .returned (.tuple #[]) ∧ Stands w0 b tabs (bs0 ++ stT tabs x) w' ∧ Kp w0.heap.size b w w')
    (h : Hd) (l : List Ar5) (tabs : Nat) (bs0 : List UInt8) (w : World) (hL : Row w0 h 3 l arC (ArH n w0)) (hst : Stands w0 b tabs bs0 w) (ht : tabs + 1 ≤ 100000000000000) (hlen : bs0.length + (l.flatMap (arT (tabs + 1))).length ≤ 100000000000000) :
    Calls Tryz.prog 107 #[.pointer (some ⟨b, 0, none⟩), .slice h.oa l.length h.cap] w fun e w' => e = .returned (.tuple #[]) ∧ Stands w0 b tabs (bs0 ++ l.flatMap (arT (tabs + 1))) w' ∧ Kp w0.heap.size b w w' := by
  obtain ⟨oa, cap⟩ := h
  obtain ⟨hl1, hl2, hl3, hl4⟩ := hL
  dsimp only at hl1 hl2 hl3 ⊢
  unfold maxLen at hl2
  replace hl3 := Lib.hid hl3
  replace hl4 := Lib.hid hl4
  replace ihS := Lib.hid ihS
  have HF := Lib.hid (further_any tabs w0.heap.size b bs0 w hst.isB (by omega) hst.below.size)
  have hltb := hst.isB.lt
  have HST := Lib.hid hst
  clear hst
  go_enter_defers Tryz.func107, Tryz.ntmps107
  go_wp2_with fail
  refine HF.out.mono ?_
  rintro e w1 ⟨rfl, h1, K1, hx1⟩
  have H1 := Lib.hid (show Stands w0 b (tabs + 1) bs0 w1 from ⟨h1, HST.out.below.trans K1.below⟩)
  have KK1 := Lib.hid K1
  obtain ⟨bx, hbx⟩ : ∃ bx, bx = w.heap.size := ⟨_, rfl⟩
  rw [← hbx] at hx1 ⊢
  have hbxb : bx ≠ b := by omega
  have HX1 := Lib.hid hx1
  clear h1 K1 hx1 hbx HF
  go_wp2_with fail
  go_loopw [10] (fun u wr => ∃ j : Nat, j ≤ l.length ∧ u = .int .i64 j ∧ Stands w0 b (tabs + 1) (bs0 ++ (l.take j).flatMap (arT (tabs + 1))) wr ∧ Kp w0.heap.size b w wr ∧ wr.heap[bx]? = some (.cells #[.pointer (some ⟨b, 0, none⟩)] 127)) (fun u _ => l.length - (intOf u).toNat)
  case atStart => exact ⟨0, by omega, rfl, by simpa using H1.out, KK1.out, HX1.out⟩
  case round =>
    clear H1 KK1 HX1
    obtain ⟨j, hj, rfl, H, K, hxr⟩ := hrel
    obtain ⟨wo, rfl⟩ : ∃ wo : World, wo = wr := ⟨_, rfl⟩
    by_cases hjl : j < l.length
    · have t1 : decide ((j : Int) < l.length) = true := by simp; omega
      obtain ⟨ba, offa, rfl, hlt, hcell⟩ := hl3.out (by omega)
      obtain ⟨x, hx⟩ : ∃ x, l[j]? = some x := ⟨_, List.getElem?_eq_getElem hjl⟩
      have HSN := Lib.hid (flatMap_snoc (arT (tabs + 1)) l j x hx)
      have hln := flatMap_len (arT (tabs + 1)) l j x hx
      have hmem := hl4.out x (List.mem_of_getElem? hx)
      obtain ⟨av, ab, ah, ay⟩ := x
      have hb0r := H.below
      have g0 : wo.cell? ⟨ba, offa + j * 3, none⟩ = some (.string av) := (hb0r.cell (p := ⟨ba, offa + j * 3, none⟩) hlt).trans (by simpa using hcell j _ hx 0 _ rfl)
      have g1 : wo.cell? ⟨ba, offa + j * 3 + 1, none⟩ = some (.string ab) := (hb0r.cell (p := ⟨ba, offa + j * 3 + 1, none⟩) hlt).trans (by simpa using hcell j _ hx 1 _ rfl)
      have g2 : wo.cell? ⟨ba, offa + j * 3 + 2, none⟩ = some (.slice ah.oa ay.length ah.cap) := (hb0r.cell (p := ⟨ba, offa + j * 3 + 2, none⟩) hlt).trans (by simpa using hcell j _ hx 2 _ rfl)
      obtain ⟨pre, hpre⟩ : ∃ q, q = bs0 ++ (l.take j).flatMap (arT (tabs + 1)) := ⟨_, rfl⟩
      rw [← hpre] at H
      have hprl : pre.length = bs0.length + ((l.take j).flatMap (arT (tabs + 1))).length := by rw [hpre, List.length_append]
      have HPRE := Lib.hid hpre
      have hA : arT (tabs + 1) (.mk av ab ah ay) = lineT (tabs + 1) [av, strB (boundT ab), ⟨#[32, 61, 62, 32, 123]⟩] ++ rowT stT (tabs + 1 + 1) ay ++ lineT (tabs + 1) [⟨#[125]⟩] := by rw [arT, stsT_eq]
      have HA := Lib.hid hA
      rw [hA] at hln
      simp only [List.length_append] at hln
      have htb := line_tabs (tabs + 1) [av, strB (boundT ab), ⟨#[32, 61, 62, 32, 123]⟩]
      have hlb : (boundT ab).length ≤ 100000000000000 := by
        have h1 := mem_line (tabs + 1) [av, strB (boundT ab), ⟨#[32, 61, 62, 32, 123]⟩] (strB (boundT ab)) (by simp)
        rw [strB_size] at h1
        omega
      have hc : ∀ W, Calls Tryz.prog 129 #[arV (.mk av ab ah ay)] W fun e w' => e = .returned (.string (strB (boundT ab))) ∧ Below W.heap.size W w' := fun W => bound_any av ab ah ay W hlb
      generalize strB (boundT ab) = TB at hc hln HA htb
      simp only [arV, arC] at hc
      replace hc := Lib.hid hc
      have HL := Lib.hid (show ∀ W : World, Stands w0 b (tabs + 1) pre W → Calls Tryz.prog 47 #[.pointer (some ⟨b, 0, none⟩), .slice (some ⟨W.heap.size, 0, none⟩) 3 3] (W.alloc (.cells #[.string av, .string TB, .string ⟨#[32, 61, 62, 32, 123]⟩] 9)) fun e w' => e = .returned (.tuple #[]) ∧ Stands w0 b (tabs + 1) (pre ++ lineT (tabs + 1) [av, TB, ⟨#[32, 61, 62, 32, 123]⟩]) w' ∧ Kp w0.heap.size b W w' from fun W h => line_st (tabs + 1) b 3 pre [av, TB, ⟨#[32, 61, 62, 32, 123]⟩] W h (by simp) (by omega))
      have HRW := Lib.hid (show ∀ W : World, Stands w0 b (tabs + 1) (pre ++ lineT (tabs + 1) [av, TB, ⟨#[32, 61, 62, 32, 123]⟩]) W → Calls Tryz.prog 52 #[.pointer (some ⟨b, 0, none⟩), .slice ah.oa ay.length ah.cap] W fun e w' => e = .returned (.tuple #[]) ∧ Stands w0 b (tabs + 1) (pre ++ lineT (tabs + 1) [av, TB, ⟨#[32, 61, 62, 32, 123]⟩] ++ rowT stT (tabs + 1 + 1) ay) w' ∧ Kp w0.heap.size b W w' from fun W h => (row_step stT (StH n w0) (tabs + 1) w0.heap.size b (pre ++ lineT (tabs + 1) [av, TB, ⟨#[32, 61, 62, 32, 123]⟩]) ah ay w0 W rfl h.isB h.below (arH_rows hmem) (by rw [List.length_append]; omega) (by omega) (fun x hx bs1 w1 h1 h2 h3 => (ihS.out x (tabs + 1 + 1) bs1 w1 ((arH_rows hmem).2.2.2 x hx) ⟨h1, h2⟩ h3).mono fun e w' h => ⟨h.1, h.2.1.isB, h.2.2⟩)).mono fun e w' q => ⟨q.1, h.wrote q.2.1 q.2.2, q.2.2⟩)
      have HL2 := Lib.hid (show ∀ W : World, Stands w0 b (tabs + 1) (pre ++ lineT (tabs + 1) [av, TB, ⟨#[32, 61, 62, 32, 123]⟩] ++ rowT stT (tabs + 1 + 1) ay) W → Calls Tryz.prog 47 #[.pointer (some ⟨b, 0, none⟩), .slice (some ⟨W.heap.size, 0, none⟩) 1 1] (W.alloc (.cells #[.string ⟨#[125]⟩] 9)) fun e w' => e = .returned (.tuple #[]) ∧ Stands w0 b (tabs + 1) (pre ++ lineT (tabs + 1) [av, TB, ⟨#[32, 61, 62, 32, 123]⟩] ++ rowT stT (tabs + 1 + 1) ay ++ lineT (tabs + 1) [⟨#[125]⟩]) w' ∧ Kp w0.heap.size b W w' from fun W h => line_st (tabs + 1) b 1 _ [⟨#[125]⟩] W h (by simp) (by simp only [List.length_append]; omega))
      have hb2 := alloc_below wo (.cells #[.string av, .string ab, .slice ah.oa ay.length ah.cap] 107)
      have hx2 := heap_alloc_new wo (.cells #[.string av, .string ab, .slice ah.oa ay.length ah.cap] 107)
      have S0 := Lib.hid (H.call hb2)
      have K0 := Lib.hid (K.trans (H.kp hb2))
      have hxr2 := keepB hxr hb2
      have hob := H.isB.lt
      clear hx hcell hpre hA hmem hln htb hlb hprl hb0r H K hxr
      go_upto_region 4 with fail
      obtain ⟨W0, hW0⟩ : ∃ W, W = wo.alloc (.cells #[.string av, .string ab, .slice ah.oa ay.length ah.cap] 107) := ⟨_, rfl⟩
      rw [← hW0] at hx2 hb2 S0 K0 hxr2 ⊢
      obtain ⟨ax, hax⟩ : ∃ ax, ax = wo.heap.size := ⟨_, rfl⟩
      rw [← hax] at hx2 ⊢
      have hne : ax ≠ b := by omega
      have HZ := Lib.hid (show ∀ w' : World, w'.heap[ax]? = some (.cells #[.string av, .string ab, .slice ah.oa ay.length ah.cap] 107) → w'.cell? ⟨ax, 0, none⟩ = some (.string av) ∧ w'.cell? ⟨ax, 1, none⟩ = some (.string ab) ∧ w'.cell? ⟨ax, 2, none⟩ = some (.slice ah.oa ay.length ah.cap) from fun w' h => by simp [World.cell?, h])
      have X0 := Lib.hid hx2
      have R0 := Lib.hid hxr2
      obtain ⟨y0, y1, y2⟩ := HZ.out W0 hx2
      clear hW0 hax hx2 hb2 hxr2 g0 g1 g2
      go_region_held3 (fun w' => w'.cell? ⟨ax, 0, none⟩ = some (.string av) ∧ w'.cell? ⟨ax, 1, none⟩ = some (.string ab) ∧ w'.cell? ⟨ax, 2, none⟩ = some (.slice ah.oa ay.length ah.cap)) (first | (refine ⟨?_, ?_, ?_⟩ <;> assumption) | go_keep)
        (first
          | (go_at_call 129; refine (hc.out W0.drew).mono ?_; rintro e w1 ⟨rfl, hq'⟩; have hq := below_undrew hq'; have S1 := Lib.hid (S0.out.call hq); have K1 := Lib.hid (K0.out.trans (S0.out.kp hq)); have X1 := Lib.hid (keepB X0.out hq); have R1 := Lib.hid (keepB R0.out hq); obtain ⟨z0, z1, z2⟩ := HZ.out w1 X1.out; clear hq hq')
          | (go_at_call 47; refine (HL.out w1 S1.out).mono ?_; rintro e w2 ⟨rfl, hq1, hq2⟩; have S2 := Lib.hid hq1; have K2 := Lib.hid (K1.out.trans hq2); have X2 := Lib.hid (kp_block hq2 X1.out hne (by decide)); have R2 := Lib.hid (kp_block hq2 R1.out hbxb (by decide)); obtain ⟨u0, u1, u2⟩ := HZ.out w2 X2.out; clear hq1 hq2))
      clear y0 y1 y2 z0 z1 z2 S0 K0 X0 R0 S1 K1 X1 R1 hc HL
      go_wp2_with fail
      refine (HRW.out _ S2.out).mono ?_
      rintro e w3 ⟨rfl, hq1, hq2⟩
      have S3 := Lib.hid hq1
      have K3 := Lib.hid (K2.out.trans hq2)
      have R3 := Lib.hid (kp_block hq2 R2.out hbxb (by decide))
      clear hq1 hq2 u0 u1 u2 S2 K2 R2 X2 HRW
      go_wp2_with fail
      refine (HL2.out _ S3.out).mono ?_
      rintro e w4 ⟨rfl, hq1, hq2⟩
      have S4 := Lib.hid (show Stands w0 b (tabs + 1) (bs0 ++ (l.take (j + 1)).flatMap (arT (tabs + 1))) w4 by rw [HSN.out, ← List.append_assoc, ← HPRE.out, HA.out]; simpa only [List.append_assoc] using hq1)
      have K4 := Lib.hid (K3.out.trans hq2)
      have R4 := Lib.hid (kp_block hq2 R3.out hbxb (by decide))
      clear hq1 hq2 S3 K3 R3 HL2
      go_wp2
      go_roundw
      case rel => exact ⟨j + 1, by omega, by go_num, S4.out, K4.out, R4.out⟩
      case measure => simp [intOf]; omega
    · have t1 : decide ((j : Int) < l.length) = false := by simp; omega
      obtain rfl : j = l.length := by omega
      rw [List.take_length] at H
      go_wp2
      refine leaves_cons (f := 105) (args := #[.pointer (some ⟨bx, 0, none⟩)]) (by simp) (by simp [go_sem]) ?_
      refine (back_deferred tabs w0.heap.size b bx (bs0 ++ l.flatMap (arT (tabs + 1))) .returning wo H.isB (by omega) hxr).mono ?_
      rintro e u' w9 ⟨rfl, rfl, h9, K9⟩
      exact ⟨_, results_none rfl _ _ _, rfl, ⟨h9, H.below.trans K9.below⟩, K.trans K9⟩

theorem statement_any (n b : Nat) (w0 : World) (hV : Vz w0) : ∀ (x : St5) (tabs : Nat) (bs0 : List UInt8) (w : World), StH n w0 x → Stands w0 b tabs bs0 w → bs0.length + (stT tabs x).length ≤ 100000000000000 → Calls Tryz.prog 82 #[.pointer (some ⟨b, 0, none⟩), stV x] w fun e w' => e = .returned (.tuple #[]) ∧ Stands w0 b tabs (bs0 ++ stT tabs x) w' ∧ Kp w0.heap.size b w w' := by
  induction n with
  | zero => intro x tabs bs0 w hx; unfold StH at hx; exact hx.elim
  | succ n ih =>
    rintro ⟨k, pos, nm, ⟨tk, tn, th_, tl⟩, ⟨pn, ph, pp⟩, ⟨rk, rh, ro, ⟨rpn, rph, rpp⟩, rn, rr⟩, ⟨on, oi, ⟨opn, oph, opp⟩⟩, ht, th, he, el, ha, ar⟩ tabs bs0 w hx hst hlen
    by_cases q0 : k = 0
    · subst q0
      exact statementT_0 n tabs b pos nm tk tn th_ tl pn ph pp rk rh ro rpn rph rpp rn rr on oi opn oph opp ht th he el ha ar bs0 w0 w hx hV hst hlen
    by_cases q1 : k = 1
    · subst q1
      exact statementT_1 n tabs b pos nm tk tn th_ tl pn ph pp rk rh ro rpn rph rpp rn rr on oi opn oph opp ht th he el ha ar bs0 w0 w hx hV hst hlen
    by_cases q2 : k = 2
    · subst q2
      exact statementT_2 n tabs b pos nm tk tn th_ tl pn ph pp rk rh ro rpn rph rpp rn rr on oi opn oph opp ht th he el ha ar bs0 w0 w hx hV hst hlen ih
    by_cases q3 : k = 3
    · subst q3
      exact statementT_3 n tabs b pos nm tk tn th_ tl pn ph pp rk rh ro rpn rph rpp rn rr on oi opn oph opp ht th he el ha ar bs0 w0 w hx hV hst hlen ih
    by_cases q4 : k = 4
    · subst q4
      exact statementT_4 n tabs b pos nm tk tn th_ tl pn ph pp rk rh ro rpn rph rpp rn rr on oi opn oph opp ht th he el ha ar bs0 w0 w hx hV hst hlen (arms_of n b w0 ih)
    by_cases q5 : k = 5
    · subst q5
      exact statementT_5 n tabs b pos nm tk tn th_ tl pn ph pp rk rh ro rpn rph rpp rn rr on oi opn oph opp ht th he el ha ar bs0 w0 w hx hV hst hlen
    by_cases q6 : k = 6
    · subst q6
      exact statementT_6 n tabs b pos nm tk tn th_ tl pn ph pp rk rh ro rpn rph rpp rn rr on oi opn oph opp ht th he el ha ar bs0 w0 w hx hV hst hlen
    by_cases q7 : k = 7
    · subst q7
      exact statementT_7 n tabs b pos nm tk tn th_ tl pn ph pp rk rh ro rpn rph rpp rn rr on oi opn oph opp ht th he el ha ar bs0 w0 w hx hV hst hlen
    by_cases q8 : k = 8
    · subst q8
      exact statementT_8 n tabs b pos nm tk tn th_ tl pn ph pp rk rh ro rpn rph rpp rn rr on oi opn oph opp ht th he el ha ar bs0 w0 w hx hV hst hlen
    exact statementT_X n tabs b k pos nm tk tn th_ tl pn ph pp rk rh ro rpn rph rpp rn rr on oi opn oph opp ht th he el ha ar bs0 w0 w hx hV hst hlen q0 q1 q2 q3 q4 q5 q6 q7 q8
end Go.Proofs.YtgogdcpgfmndnaaGreatDoor
