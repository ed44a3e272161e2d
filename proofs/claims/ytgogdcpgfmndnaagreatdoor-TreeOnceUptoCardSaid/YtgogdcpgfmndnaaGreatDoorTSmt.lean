/-
  statement of tree's writer at one kind. Conditions: the writer is one that this call has made.
-/
import Derived.Test.YtgogdcpgfmndnaaGreatDoorTRow
namespace Go.Proofs.YtgogdcpgfmndnaaGreatDoor
open Go.RowKit

set_option maxRecDepth 100000 in
set_option maxHeartbeats 8000000 in
theorem statement_6 (sp1 : Int) (sn1 : ByteArray) (k1 : Int) (nm1 : ByteArray) (h1 : Hd) (l1 : List Ty5) (pn1 : ByteArray) (ph1 : Hd) (pp1 : List ByteArray) (rk1 : Int) (rh1 : Hd) (ro1 : List Op5) (pnr1 : ByteArray) (phr1 : Hd) (ppr1 : List ByteArray) (rn1 rr1 : ByteArray) (ono1 : Bool) (oio1 : Int) (pno1 : ByteArray) (pho1 : Hd) (ppo1 : List ByteArray) (ht1 : Hd) (th1 : List St5) (he1 : Hd) (el1 : List St5) (ha1 : Hd) (ar1 : List Ar5) (tabs B b : Nat) (bs0 oT : List UInt8) (w : World) (h : IsB3 (.int .i64 tabs) B b (Lib.byteCells bs0) w) (hBw : B ≤ w.heap.size)
    (hO : ∀ W, Below w.heap.size w W → Calls Tryz.prog 21 #[opV ⟨ono1, oio1, ⟨pno1, pho1, ppo1⟩⟩] W fun e w' => e = .returned (.string (strB oT)) ∧ Below W.heap.size W w')
    (hlen : bs0.length + (lineT tabs [⟨#[114, 101, 116, 117, 114, 110, 32]⟩, strB oT, ⟨#[59]⟩]).length ≤ 100000000000000) :
    Calls Tryz.prog 82 #[.pointer (some ⟨b, 0, none⟩), stV (.mk 6 sp1 sn1 (.mk k1 nm1 h1 l1) ⟨pn1, ph1, pp1⟩ ⟨rk1, rh1, ro1, ⟨pnr1, phr1, ppr1⟩, rn1, rr1⟩ ⟨ono1, oio1, ⟨pno1, pho1, ppo1⟩⟩ ht1 th1 he1 el1 ha1 ar1)] w fun e w' => e = .returned (.tuple #[]) ∧ IsB3 (.int .i64 tabs) B b (Lib.byteCells (bs0 ++ lineT tabs [⟨#[114, 101, 116, 117, 114, 110, 32]⟩, strB oT, ⟨#[59]⟩])) w' ∧ Kp B b w w' := by
  simp only [opV, opC, plC, List.cons_append, List.nil_append] at hO
  simp only [stV]
  obtain ⟨c1, hc1'⟩ : ∃ c, c = stC (.mk 6 sp1 sn1 (.mk k1 nm1 h1 l1) ⟨pn1, ph1, pp1⟩ ⟨rk1, rh1, ro1, ⟨pnr1, phr1, ppr1⟩, rn1, rr1⟩ ⟨ono1, oio1, ⟨pno1, pho1, ppo1⟩⟩ ht1 th1 he1 el1 ha1 ar1) := ⟨_, rfl⟩
  rw [← hc1']
  have e0 : c1[0]? = some (.int .i64 6) := by rw [hc1']; rfl
  have e14 : c1[14]? = some (.bool ono1) := by rw [hc1']; rfl
  have e15 : c1[15]? = some (.int .i64 oio1) := by rw [hc1']; rfl
  have e16 : c1[16]? = some (.string pno1) := by rw [hc1']; rfl
  have e17 : c1[17]? = some (.slice pho1.oa ppo1.length pho1.cap) := by rw [hc1']; rfl
  clear hc1'
  have hb0 := alloc_below w (.cells c1.toArray 52)
  have hltb := h.lt
  have HO := Lib.hid (hO _ hb0)
  have HH := Lib.hid (h.below hb0)
  have HB0 := Lib.hid hb0
  have HL := Lib.hid (show ∀ (k : Nat) (W : World), IsB3 (.int .i64 tabs) B b (Lib.byteCells bs0) W → W.heap[k]? = some (.cells #[.string ⟨#[114, 101, 116, 117, 114, 110, 32]⟩, .string (strB oT), .string ⟨#[59]⟩] 9) → k ≠ b → B ≤ W.heap.size → Calls Tryz.prog 47 #[.pointer (some ⟨b, 0, none⟩), .slice (some ⟨k, 0, none⟩) 3 3] W fun e w' => e = .returned (.tuple #[]) ∧ IsB3 (.int .i64 tabs) B b (Lib.byteCells (bs0 ++ lineT tabs [⟨#[114, 101, 116, 117, 114, 110, 32]⟩, strB oT, ⟨#[59]⟩])) w' ∧ Kp B b W w' from fun k W h1 h2 h3 h4 => line_any tabs B b k 3 bs0 [⟨#[114, 101, 116, 117, 114, 110, 32]⟩, strB oT, ⟨#[59]⟩] W h1 h2 h3 h4 (by simp) hlen)
  obtain ⟨RT, hRT⟩ : ∃ R, R = lineT tabs [⟨#[114, 101, 116, 117, 114, 110, 32]⟩, strB oT, ⟨#[59]⟩] := ⟨_, rfl⟩
  rw [← hRT] at HL ⊢
  clear hRT hlen hO h hb0
  go_enter Tryz.func82, Tryz.ntmps82
  go_wp2_with fail
  refine HO.out.mono ?_
  rintro e w1 ⟨rfl, hb1⟩
  have B1 : Below w.heap.size w w1 := HB0.out.trans (hb1.mono HB0.out.size)
  have H1 := HH.out.below hb1
  have hb2 := alloc_below w1 (.cells #[.string ⟨#[114, 101, 116, 117, 114, 110, 32]⟩, .string (strB oT), .string ⟨#[59]⟩] 9)
  have hx2 := heap_alloc_new w1 (.cells #[.string ⟨#[114, 101, 116, 117, 114, 110, 32]⟩, .string (strB oT), .string ⟨#[59]⟩] 9)
  have H2 := H1.below hb2
  have hne : w1.heap.size ≠ b := by have := B1.size; omega
  have hB2 : B ≤ (w1.alloc (.cells #[.string ⟨#[114, 101, 116, 117, 114, 110, 32]⟩, .string (strB oT), .string ⟨#[59]⟩] 9)).heap.size := Nat.le_trans (Nat.le_trans hBw B1.size) hb2.size
  have hc := Lib.hid (HL.out w1.heap.size _ H2 hx2 hne hB2)
  have K2 := Lib.hid (Kp.of_below (b := b) (B1.trans (hb2.mono B1.size)) hBw)
  clear hb1 H1 hb2 hx2 H2 hB2 B1 HO HH HB0 HL e0 e14 e15 e16 e17
  go_wp2_with fail
  refine hc.out.mono ?_
  rintro e w3 ⟨rfl, H3, K3⟩
  have H4 := Lib.hid H3
  have K4 := Lib.hid (K2.out.trans K3)
  clear H3 K3 hc
  go_wp2
  first | go_end0 | refine bodyPost_ret (results_none rfl _ _ _) rfl ?_
  exact ⟨rfl, H4.out, K4.out⟩

end Go.Proofs.YtgogdcpgfmndnaaGreatDoor
