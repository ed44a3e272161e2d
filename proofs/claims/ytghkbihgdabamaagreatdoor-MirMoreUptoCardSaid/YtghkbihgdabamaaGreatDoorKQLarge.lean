/-
  Large, of the document's own: it answers, whatever it answers. Conditions: the source lies in the heap.
-/
import Derived.Test.YtghkbihgdabamaaGreatDoorKPRules
import Derived.Deep.RegionHeld3
import Derived.Deep.QuietTactic
import Derived.Deep.CutBlock
import Derived.BigQuiet
namespace Go.Proofs.YtghkbihgdabamaaGreatDoor
open Go.RowKit

theorem info52L : (Tryz.prog.info? 131).map (·.size) = some 21 := by kernel_rfl
theorem stC_oneL (x : St5) : ∀ v ∈ stC x, v.oneCell' = true := by
  cases x with | mk k pos nm ty p rv op ht th he el ha arms =>
  cases ty
  intro v hv
  simp [stC, tyC, plC, rvC, opC] at hv
  rcases hv with rfl | rfl | rfl | rfl | rfl | rfl | rfl | rfl | rfl | rfl | rfl | rfl | rfl | rfl | rfl | rfl | rfl | rfl | rfl | rfl | rfl <;> rfl
theorem cells3L {w : World} {k : Nat} {v0 v1 v2 : Value} {t : TypeId} (h : w.heap[k]? = some (.cells #[v0, v1, v2] t)) :
    w.cell? ⟨k, 0, none⟩ = some v0 ∧ w.cell? ⟨k, 1, none⟩ = some v1 ∧ w.cell? ⟨k, 2, none⟩ = some v2 ∧ True ∧ k < w.heap.size := by
  refine ⟨?_, ?_, ?_, trivial, (Array.getElem?_eq_some_iff.1 h).1⟩ <;> simp [World.cell?, h]

def SomeIL (e : Ending) : Prop := ∃ z : Int, e = .returned (.int .i64 z)
theorem undrew2L {w w' : World} (h : Below w.drew.heap.size w.drew w') : Below w.heap.size w w' := ⟨h.os, h.tape, h.output, h.size, h.block⟩

set_option maxRecDepth 100000 in
set_option maxHeartbeats 4000000 in
theorem tySize_step (n : Nat) (ih : ∀ (t : Ty5) (w : World), TyH n w t → Calls Tryz.prog 21 #[tyV t] w fun e w' => SomeIL e ∧ Below w.heap.size w w') (t : Ty5) (w : World) (hT : TyH (n + 1) w t) :
    Calls Tryz.prog 21 #[tyV t] w fun e w' => SomeIL e ∧ Below w.heap.size w w' := by
  obtain ⟨k, nm, ⟨oa, cap⟩, l⟩ := t
  obtain ⟨-, hl1, hl2, hl3, hl4⟩ := hT
  dsimp only at hl1 hl2 hl3
  unfold maxLen at hl2
  replace hl3 := Lib.hid hl3
  replace hl4 := Lib.hid hl4
  simp only [tyV, tyC] at ih ⊢
  replace ih := Lib.hid ih
  obtain ⟨W0, hW0⟩ : ∃ W, W = w.alloc (.cells #[.int .i64 k, .string nm, .slice oa l.length cap] 46) := ⟨_, rfl⟩
  have hb0 : Below w.heap.size w W0 := by rw [hW0]; exact alloc_below _ _
  have hx0 : W0.heap[w.heap.size]? = some (.cells #[.int .i64 k, .string nm, .slice oa l.length cap] 46) := by rw [hW0, heap_alloc_new]
  have HB0 := Lib.hid hb0
  have HX0 := Lib.hid hx0
  obtain ⟨y0, y1, y2, -, -⟩ := cells3L hx0
  clear hb0 hx0
  go_enter Tryz.func21, Tryz.ntmps21
  go_wp2_with fail
  rw [← hW0]
  clear hW0 y0 y1 y2
  go_loopw [3, 4] (fun s u wr => (∃ z : Int, s = .int .i64 z) ∧ ∃ j : Nat, j ≤ l.length ∧ u = .int .i64 j ∧ Below w.heap.size w wr ∧ wr.heap[w.heap.size]? = some (.cells #[.int .i64 k, .string nm, .slice oa l.length cap] 46)) (fun _ u _ => l.length - (intOf u).toNat)
  case atStart => exact ⟨⟨_, rfl⟩, 0, by omega, rfl, HB0.out, HX0.out⟩
  case round =>
    clear HB0 HX0
    obtain ⟨⟨z, rfl⟩, j, hj, rfl, hbw, hx⟩ := hrel
    obtain ⟨y0, y1, y2, -, hlt0⟩ := cells3L hx
    by_cases hjl : j < l.length
    · have t1 : decide ((j : Int) < l.length) = true := by simp; omega
      obtain ⟨ba, offa, rfl, hlt, hcell⟩ := hl3.out (by omega)
      obtain ⟨x, hxj⟩ : ∃ x, l[j]? = some x := ⟨_, List.getElem?_eq_getElem hjl⟩
      have hmem := hl4.out x (List.mem_of_getElem? hxj)
      have hc := Lib.hid (ih.out x wr (TyH.below n hmem hbw))
      obtain ⟨k1, nm1, h1, l1⟩ := x
      have q0 : wr.cell? ⟨ba, offa + j * 3, none⟩ = some (.int .i64 k1) := (hbw.cell (p := ⟨ba, offa + j * 3, none⟩) hlt).trans (by simpa using hcell j _ hxj 0 _ rfl)
      have q1 : wr.cell? ⟨ba, offa + j * 3 + 1, none⟩ = some (.string nm1) := (hbw.cell (p := ⟨ba, offa + j * 3 + 1, none⟩) hlt).trans (by simpa using hcell j _ hxj 1 _ rfl)
      have q2 : wr.cell? ⟨ba, offa + j * 3 + 2, none⟩ = some (.slice h1.oa l1.length h1.cap) := (hbw.cell (p := ⟨ba, offa + j * 3 + 2, none⟩) hlt).trans (by simpa using hcell j _ hxj 2 _ rfl)
      have HX := Lib.hid hx
      have HBW := Lib.hid hbw
      clear hxj hcell hmem hx hbw
      dsimp only at hc
      go_wp2_with (go_at_call 21; refine hc.out.mono ?_; rintro e w1 ⟨⟨z1, rfl⟩, hb1⟩; have HB1 := Lib.hid (HBW.out.trans (hb1.mono HBW.out.size)); have HX1 := Lib.hid ((hb1.block _ hlt0).trans HX.out); clear hb1)
      go_roundw
      case rel => exact ⟨⟨_, rfl⟩, j + 1, by omega, by go_num, HB1.out, HX1.out⟩
      case measure => simp [intOf]; omega
    · have t1 : decide ((j : Int) < l.length) = false := by simp; omega
      obtain rfl : j = l.length := by omega
      have HBW := Lib.hid hbw
      clear hbw
      go_wp2
      go_ret
      exact ⟨⟨_, rfl⟩, HBW.out⟩
theorem tySize_any : ∀ (n : Nat) (t : Ty5) (w : World), TyH n w t → Calls Tryz.prog 21 #[tyV t] w fun e w' => SomeIL e ∧ Below w.heap.size w w'
  | 0, _, _, h => h.elim
  | n + 1, t, w, h => tySize_step n (tySize_any n) t w h

set_option maxRecDepth 100000 in
set_option maxHeartbeats 4000000 in
theorem fieldSize_any (n : Nat) (hd : Hd) (l : List Fd5) (w : World) (hL : Row w hd 4 l fdC (FdH n w)) :
    Calls Tryz.prog 20 #[.slice hd.oa l.length hd.cap] w fun e w' => SomeIL e ∧ Below w.heap.size w w' := by
  obtain ⟨oa, cap⟩ := hd
  obtain ⟨hl1, hl2, hl3, hl4⟩ := hL
  dsimp only at hl1 hl2 hl3 ⊢
  unfold maxLen at hl2
  replace hl3 := Lib.hid hl3
  replace hl4 := Lib.hid hl4
  go_enter Tryz.func20, Tryz.ntmps20
  go_wp2_with fail
  go_loopw [3, 4] (fun s u wr => (∃ z : Int, s = .int .i64 z) ∧ ∃ j : Nat, j ≤ l.length ∧ u = .int .i64 j ∧ Below w.heap.size w wr) (fun _ u _ => l.length - (intOf u).toNat)
  case atStart => exact ⟨⟨_, rfl⟩, 0, by omega, rfl, Below.refl _ _⟩
  case round =>
    obtain ⟨⟨z, rfl⟩, j, hj, rfl, hbw⟩ := hrel
    by_cases hjl : j < l.length
    · have t1 : decide ((j : Int) < l.length) = true := by simp; omega
      obtain ⟨ba, offa, rfl, hlt, hcell⟩ := hl3.out (by omega)
      obtain ⟨x, hxj⟩ : ∃ x, l[j]? = some x := ⟨_, List.getElem?_eq_getElem hjl⟩
      have hmem := hl4.out x (List.mem_of_getElem? hxj)
      obtain ⟨fn1, ⟨k1, nm1, h1, l1⟩⟩ := x
      have hc := fun W (hW : Below wr.heap.size wr W) => tySize_any n (.mk k1 nm1 h1 l1) W (TyH.below n (TyH.below n hmem hbw) hW)
      simp only [tyV, tyC] at hc
      replace hc := Lib.hid hc
      have hqq : ∀ w', Below wr.heap.size wr w' → w'.cell? ⟨ba, offa + j * 4, none⟩ = some (.string fn1) ∧ w'.cell? ⟨ba, offa + j * 4 + 1, none⟩ = some (.int .i64 k1) ∧ w'.cell? ⟨ba, offa + j * 4 + 1 + 1, none⟩ = some (.string nm1) ∧ w'.cell? ⟨ba, offa + j * 4 + 1 + 2, none⟩ = some (.slice h1.oa l1.length h1.cap) := fun w' h => by
        have hb2 := hbw.trans (h.mono hbw.size)
        exact ⟨(hb2.cell (p := ⟨ba, offa + j * 4, none⟩) hlt).trans (by simpa using hcell j _ hxj 0 _ rfl), (hb2.cell (p := ⟨ba, offa + j * 4 + 1, none⟩) hlt).trans (by simpa using hcell j _ hxj 1 _ rfl), (hb2.cell (p := ⟨ba, offa + j * 4 + 1 + 1, none⟩) hlt).trans (by simpa using hcell j _ hxj 2 _ rfl), (hb2.cell (p := ⟨ba, offa + j * 4 + 1 + 2, none⟩) hlt).trans (by simpa using hcell j _ hxj 3 _ rfl)⟩
      obtain ⟨q0, q1, q2, q3⟩ := hqq wr (Below.refl _ _)
      have HQ := Lib.hid hqq
      have HBW := Lib.hid hbw
      clear hxj hcell hmem hbw hqq
      go_wp2_with fail
      go_region_held3 (fun w' => w'.cell? ⟨ba, offa + j * 4, none⟩ = some (.string fn1) ∧ w'.cell? ⟨ba, offa + j * 4 + 1, none⟩ = some (.int .i64 k1) ∧ w'.cell? ⟨ba, offa + j * 4 + 1 + 1, none⟩ = some (.string nm1) ∧ w'.cell? ⟨ba, offa + j * 4 + 1 + 2, none⟩ = some (.slice h1.oa l1.length h1.cap)) (first | (refine ⟨?_, ?_, ?_, ?_⟩ <;> assumption) | go_keep)
        (first | (go_at_call 21; refine (hc.out wr.drew (by exact (Below.refl _ _).drew)).mono ?_; rintro e w1 ⟨⟨z1, rfl⟩, hb1'⟩; have hb1 := undrew2L hb1'; obtain ⟨x0, x1, x2, x3⟩ := HQ.out w1 hb1; have HB1 := Lib.hid (HBW.out.trans (hb1.mono HBW.out.size)); clear hb1' hb1))
      clear q0 q1 q2 q3 x0 x1 x2 x3
      go_wp2
      go_roundw
      case rel => exact ⟨⟨_, rfl⟩, j + 1, by omega, by go_num, HB1.out⟩
      case measure => simp [intOf]; omega
    · have t1 : decide ((j : Int) < l.length) = false := by simp; omega
      obtain rfl : j = l.length := by omega
      have HBW := Lib.hid hbw
      clear hbw
      go_wp2
      go_ret
      exact ⟨⟨_, rfl⟩, HBW.out⟩

set_option maxRecDepth 100000 in
set_option maxHeartbeats 16000000 in
theorem blockSize_step (n : Nat) (ih : ∀ m, m < n → ∀ (hd : Hd) (l : List St5) (w : World), Row w hd 21 l stC (StH m w) → Calls Tryz.prog 22 #[.slice hd.oa l.length hd.cap] w fun e w' => SomeIL e ∧ Below w.heap.size w w') (hd : Hd) (l : List St5) (w : World) (hL : Row w hd 21 l stC (StH n w)) :
    Calls Tryz.prog 22 #[.slice hd.oa l.length hd.cap] w fun e w' => SomeIL e ∧ Below w.heap.size w w' := by
  obtain ⟨oa, cap⟩ := hd
  obtain ⟨hl1, hl2, hl3, hl4⟩ := hL
  dsimp only at hl1 hl2 hl3 ⊢
  unfold maxLen at hl2
  replace hl3 := Lib.hid hl3
  replace hl4 := Lib.hid hl4
  replace ih := Lib.hid ih
  go_enter Tryz.func22, Tryz.ntmps22
  go_wp2_with fail
  go_loopw [3, 4] (fun s u wr => (∃ z : Int, s = .int .i64 z) ∧ ∃ j : Nat, j ≤ l.length ∧ u = .int .i64 j ∧ Below w.heap.size w wr) (fun _ u _ => l.length - (intOf u).toNat)
  case atStart => exact ⟨⟨_, rfl⟩, 0, by omega, rfl, Below.refl _ _⟩
  case round =>
    obtain ⟨⟨z, rfl⟩, j, hj, rfl, hbw⟩ := hrel
    obtain ⟨wo, rfl⟩ : ∃ wo : World, wo = wr := ⟨_, rfl⟩
    by_cases hjl : j < l.length
    · have t1 : decide ((j : Int) < l.length) = true := by simp; omega
      obtain ⟨ba, offa, rfl, hlt, hcell⟩ := hl3.out (by omega)
      obtain ⟨x, hxj⟩ : ∃ x, l[j]? = some x := ⟨_, List.getElem?_eq_getElem hjl⟩
      have hmem := hl4.out x (List.mem_of_getElem? hxj)
      have gx := Lib.hid (show wo.rangeAt ba (offa + j * 21) (stC x) from fun i v hv => (hbw.cell (p := ⟨ba, offa + j * 21 + i, none⟩) hlt).trans (hcell j x hxj i v hv))
      obtain ⟨m, rfl⟩ : ∃ m, n = m + 1 := by
        cases n with
        | zero => unfold StH at hmem; exact hmem.elim
        | succ m => exact ⟨m, rfl⟩
      obtain ⟨sk1, sp1, sn1, ⟨k1, nm1, h1, l1⟩, ⟨pn1, ph1, pp1⟩, ⟨rk1, rh1, ro1, ⟨pnr1, phr1, ppr1⟩, rn1, rr1⟩, ⟨ono1, oio1, ⟨pno1, pho1, ppo1⟩⟩, ht1, th1, he1, el1, ha1, ar1⟩ := x
      obtain ⟨-, A2, -, A4, -, A6, A7, A8⟩ := StH.below hmem hbw
      obtain ⟨A9, -⟩ := A4.2
      clear hxj hcell hmem A4
      obtain ⟨c, hc'⟩ : ∃ c, c = stC (.mk sk1 sp1 sn1 (.mk k1 nm1 h1 l1) ⟨pn1, ph1, pp1⟩ ⟨rk1, rh1, ro1, ⟨pnr1, phr1, ppr1⟩, rn1, rr1⟩ ⟨ono1, oio1, ⟨pno1, pho1, ppo1⟩⟩ ht1 th1 he1 el1 ha1 ar1) := ⟨_, rfl⟩
      rw [← hc'] at gx
      have hcl : c.length = 21 := by rw [hc']; exact stC_len _
      have hci : (Tryz.prog.info? 131).map (·.size) = some c.length := by rw [hcl]; exact info52L
      have hco : ∀ v ∈ c, v.oneCell' = true := by rw [hc']; exact stC_oneL _
      have e3 : c[3]? = some (.int .i64 k1) := by rw [hc']; rfl
      have e4 : c[4]? = some (.string nm1) := by rw [hc']; rfl
      have e5 : c[5]? = some (.slice h1.oa l1.length h1.cap) := by rw [hc']; rfl
      have e7 : c[7]? = some (.slice ph1.oa pp1.length ph1.cap) := by rw [hc']; rfl
      have e9 : c[9]? = some (.slice rh1.oa ro1.length rh1.cap) := by rw [hc']; rfl
      have e11 : c[11]? = some (.slice phr1.oa ppr1.length phr1.cap) := by rw [hc']; rfl
      have e17 : c[17]? = some (.slice pho1.oa ppo1.length pho1.cap) := by rw [hc']; rfl
      have e18 : c[18]? = some (.slice ht1.oa th1.length ht1.cap) := by rw [hc']; rfl
      have e19 : c[19]? = some (.slice he1.oa el1.length he1.cap) := by rw [hc']; rfl
      have e20 : c[20]? = some (.slice ha1.oa ar1.length ha1.cap) := by rw [hc']; rfl
      clear hc'
      have HZ := Lib.hid (show ∀ w' : World, w'.heap[wo.heap.size]? = some (.cells c.toArray 131) → (w'.cell? ⟨wo.heap.size, 3, none⟩ = some (.int .i64 k1) ∧ w'.cell? ⟨wo.heap.size, 4, none⟩ = some (.string nm1) ∧ w'.cell? ⟨wo.heap.size, 5, none⟩ = some (.slice h1.oa l1.length h1.cap) ∧ w'.cell? ⟨wo.heap.size, 7, none⟩ = some (.slice ph1.oa pp1.length ph1.cap) ∧ w'.cell? ⟨wo.heap.size, 9, none⟩ = some (.slice rh1.oa ro1.length rh1.cap) ∧ w'.cell? ⟨wo.heap.size, 11, none⟩ = some (.slice phr1.oa ppr1.length phr1.cap) ∧ w'.cell? ⟨wo.heap.size, 17, none⟩ = some (.slice pho1.oa ppo1.length pho1.cap) ∧ w'.cell? ⟨wo.heap.size, 18, none⟩ = some (.slice ht1.oa th1.length ht1.cap) ∧ w'.cell? ⟨wo.heap.size, 19, none⟩ = some (.slice he1.oa el1.length he1.cap) ∧ w'.cell? ⟨wo.heap.size, 20, none⟩ = some (.slice ha1.oa ar1.length ha1.cap)) from fun w' h => ⟨rangeAt_of_box h 3 _ e3, rangeAt_of_box h 4 _ e4, rangeAt_of_box h 5 _ e5, rangeAt_of_box h 7 _ e7, rangeAt_of_box h 9 _ e9, rangeAt_of_box h 11 _ e11, rangeAt_of_box h 17 _ e17, rangeAt_of_box h 18 _ e18, rangeAt_of_box h 19 _ e19, rangeAt_of_box h 20 _ e20⟩)
      clear e3 e4 e5 e7 e9 e11 e17 e18 e19 e20
      have h23 := fun W (hW : Below wo.heap.size wo W) => tySize_any m (.mk k1 nm1 h1 l1) W (TyH.below m A2 hW)
      simp only [tyV, tyC] at h23
      replace h23 := Lib.hid h23
      have h24a := Lib.hid (fun W (hW : Below wo.heap.size wo W) => ih.out m (by omega) ht1 th1 W (Row.below A6 hW fun _ _ hx => StH.below hx hW))
      have h24b := Lib.hid (fun W (hW : Below wo.heap.size wo W) => ih.out m (by omega) he1 el1 W (Row.below A7 hW fun _ _ hx => StH.below hx hW))
      have HBW := Lib.hid hbw
      replace hco := Lib.hid hco
      replace hci := Lib.hid hci
      replace hcl := Lib.hid hcl
      clear A2 A6 A7 hbw
      obtain ⟨ro, roc⟩ := rh1
      obtain ⟨o1, o2, o3, -⟩ := A9
      dsimp only at o1 o2 o3
      unfold maxLen at o2
      replace o3 := Lib.hid o3
      obtain ⟨aro, arc⟩ := ha1
      obtain ⟨p1, p2, p3, p4⟩ := A8
      dsimp only at p1 p2 p3
      unfold maxLen at p2
      replace p3 := Lib.hid p3
      replace p4 := Lib.hid p4
      dsimp only at HZ
      go_upto_region 6 with (first
        | (refine wpList_load_mid rfl 131 (.tmp 16) rfl ba (offa + j * 21) rfl c _ gx.out Tryz.underlying131 rfl hci.out ?_)
        | (refine wpList_store_new2 rfl 131 (.tmp 5) (.tmp 17) rfl wo _ _ wo.heap.size rfl rfl c rfl (by rw [hcl.out]; rfl) hci.out hco.out ?_; intro W1 HK1' hbx1' hs1; have HK1 := Lib.hid HK1'; have hbx1 := Lib.hid hbx1'; have hlt1 : wo.heap.size < W1.heap.size := (by omega); replace hs1 := Lib.hid hs1; clear HK1' hbx1'))
      obtain ⟨y3, y4, y5, y7, y9, y11, y17, y18, y19, y20⟩ := HZ.out W1 hbx1.out
      go_region_held3 (fun w' => w'.cell? ⟨wo.heap.size, 3, none⟩ = some (.int .i64 k1) ∧ w'.cell? ⟨wo.heap.size, 4, none⟩ = some (.string nm1) ∧ w'.cell? ⟨wo.heap.size, 5, none⟩ = some (.slice h1.oa l1.length h1.cap) ∧ w'.cell? ⟨wo.heap.size, 7, none⟩ = some (.slice ph1.oa pp1.length ph1.cap) ∧ w'.cell? ⟨wo.heap.size, 9, none⟩ = some (.slice ro ro1.length roc) ∧ w'.cell? ⟨wo.heap.size, 11, none⟩ = some (.slice phr1.oa ppr1.length phr1.cap) ∧ w'.cell? ⟨wo.heap.size, 17, none⟩ = some (.slice pho1.oa ppo1.length pho1.cap) ∧ w'.cell? ⟨wo.heap.size, 18, none⟩ = some (.slice ht1.oa th1.length ht1.cap) ∧ w'.cell? ⟨wo.heap.size, 19, none⟩ = some (.slice he1.oa el1.length he1.cap)) (first | (refine ⟨?_, ?_, ?_, ?_, ?_, ?_, ?_, ?_, ?_⟩ <;> assumption) | go_keep)
        (first
          | (go_at_call 21; refine (h23.out W1.drew (by exact HK1.out.drew)).mono ?_; rintro e w2 ⟨⟨z2, rfl⟩, hb2'⟩; have hb2 := undrew2L hb2'; have hbx2 := Lib.hid ((hb2.block _ hlt1).trans hbx1.out); obtain ⟨u3, u4, u5, u7, u9, u11, u17, u18, u19, u20⟩ := HZ.out w2 hbx2.out; have HK2 := Lib.hid (HK1.out.trans (hb2.mono HK1.out.size)); clear hb2' hb2)
          | (go_at_call_of 22 (Value.slice ht1.oa th1.length ht1.cap); refine (h24a.out w2 HK2.out).mono ?_; rintro e w3 ⟨⟨z3, rfl⟩, hb3⟩; have hbx3 := Lib.hid ((hb3.block _ (Array.getElem?_eq_some_iff.1 hbx2.out).1).trans hbx2.out); obtain ⟨v3, v4, v5, v7, v9, v11, v17, v18, v19, v20⟩ := HZ.out w3 hbx3.out; have HK3 := Lib.hid (HK2.out.trans (hb3.mono HK2.out.size)); clear hb3)
          | (go_at_call_of 22 (Value.slice he1.oa el1.length he1.cap); refine (h24b.out w3 HK3.out).mono ?_; rintro e w4 ⟨⟨z4, rfl⟩, hb4⟩; have hbx4 := Lib.hid ((hb4.block _ (Array.getElem?_eq_some_iff.1 hbx3.out).1).trans hbx3.out); obtain ⟨q3, q4, q5, q7, q9, q11, q17, q18, q19, q20⟩ := HZ.out w4 hbx4.out; have HK4 := Lib.hid (HK3.out.trans (hb4.mono HK3.out.size)); clear hb4))
      clear y3 y4 y5 y7 y9 y11 y17 y18 y19 y20 u3 u4 u5 u7 u9 u11 u17 u18 u19 u20 v3 v4 v5 v7 v9 v11 v17 v18 v19 v20 HK2 HK3 hbx2 hbx3 h23 h24a h24b gx hco hci hcl HK1 hbx1 hs1 hlt1
      have hro : ∀ i, i < ro1.length → ∃ bo oo v n', ro = some ⟨bo, oo, none⟩ ∧ w4.cell? ⟨bo, oo + i * 4 + 2 + 1, none⟩ = some (.slice v n' 0) ∨ True := fun _ _ => ⟨0, 0, none, 0, .inr trivial⟩
      clear hro
      clear q3 q4 q5 q7 q11 q17 q18 q19
      have HKW := Lib.hid (HBW.out.trans (HK4.out.mono HBW.out.size))
      go_wp2_with fail
      go_loopw [3, 6] (fun s u wr2 => (∃ z : Int, s = .int .i64 z) ∧ ∃ i : Nat, i ≤ ro1.length ∧ u = .int .i64 i ∧ wr2 = w4) (fun _ u _ => ro1.length - (intOf u).toNat)
      case atStart => exact ⟨⟨_, rfl⟩, 0, by omega, rfl, rfl⟩
      case round =>
        obtain ⟨⟨z5, rfl⟩, i, hi, rfl, rfl⟩ := hrel
        by_cases hil : i < ro1.length
        · have t2 : decide ((i : Int) < ro1.length) = true := by simp; omega
          obtain ⟨bo, oo, rfl, holt, hocell⟩ := o3.out (by omega)
          obtain ⟨oy, hoy⟩ : ∃ x, ro1[i]? = some x := ⟨_, List.getElem?_eq_getElem hil⟩
          obtain ⟨on9, oi9, ⟨pn9, ph9, pp9⟩⟩ := oy
          have g9 : wr.cell? ⟨bo, oo + i * 4 + 2 + 1, none⟩ = some (.slice ph9.oa pp9.length ph9.cap) := (HK4.out.cell (p := ⟨bo, oo + i * 4 + 2 + 1, none⟩) holt).trans (hocell i _ hoy 3 _ rfl)
          clear hoy hocell
          go_wp2
          go_roundw
          case rel => exact ⟨⟨_, rfl⟩, i + 1, by omega, by go_num, by trivial⟩
          case measure => simp [intOf]; omega
        · have t2 : decide ((i : Int) < ro1.length) = false := by simp; omega
          obtain rfl : i = ro1.length := by omega
          clear q9
          go_wp2_with fail
          go_loopw [3, 7] (fun s u wr3 => (∃ z : Int, s = .int .i64 z) ∧ ∃ i : Nat, i ≤ ar1.length ∧ u = .int .i64 i ∧ Below wo.heap.size wo wr3 ∧ wr3.heap[wo.heap.size]? = some (.cells c.toArray 131)) (fun _ u _ => ar1.length - (intOf u).toNat)
          case atStart => exact ⟨⟨_, rfl⟩, 0, by omega, rfl, HK4.out, hbx4.out⟩
          case round =>
            clear q20
            obtain ⟨⟨z6, rfl⟩, i, hi, rfl, hbw3, hbx5⟩ := hrel
            have q20 := (HZ.out wr hbx5).2.2.2.2.2.2.2.2.2
            have HB3 := Lib.hid hbw3
            have HX3 := Lib.hid hbx5
            have hlt5 : wo.heap.size < wr.heap.size := (Array.getElem?_eq_some_iff.1 hbx5).1
            by_cases hil : i < ar1.length
            · have t3 : decide ((i : Int) < ar1.length) = true := by simp; omega
              obtain ⟨bo, oo, rfl, holt, hocell⟩ := p3.out (by omega)
              obtain ⟨ay, hay⟩ : ∃ x, ar1[i]? = some x := ⟨_, List.getElem?_eq_getElem hil⟩
              have ham := p4.out ay (List.mem_of_getElem? hay)
              obtain ⟨av9, ab9, ah9, ay9⟩ := ay
              obtain ⟨q, rfl⟩ : ∃ q, m = q + 1 := by
                cases m with
                | zero => unfold ArH at ham; exact ham.elim
                | succ q => exact ⟨q, rfl⟩
              have h24 := Lib.hid (ih.out q (by omega) ah9 ay9 wr (Row.below ham hbw3 fun _ _ hx => StH.below hx hbw3))
              have g9 : wr.cell? ⟨bo, oo + i * 3 + 2, none⟩ = some (.slice ah9.oa ay9.length ah9.cap) := (hbw3.cell (p := ⟨bo, oo + i * 3 + 2, none⟩) holt).trans (hocell i _ hay 2 _ rfl)
              clear hay hocell ham hbw3 hbx5
              go_wp2_with (go_at_call 22; refine h24.out.mono ?_; rintro e w6 ⟨⟨z7, rfl⟩, hb6⟩; have HB6 := Lib.hid (HB3.out.trans (hb6.mono HB3.out.size)); have HX6 := Lib.hid ((hb6.block _ hlt5).trans HX3.out); clear hb6)
              go_roundw
              case rel => exact ⟨⟨_, rfl⟩, i + 1, by omega, by go_num, HB6.out, HX6.out⟩
              case measure => simp [intOf]; omega
            · have t3 : decide ((i : Int) < ar1.length) = false := by simp; omega
              obtain rfl : i = ar1.length := by omega
              clear hbw3 hbx5
              go_wp2
              go_roundw
              case rel => exact ⟨⟨_, rfl⟩, j + 1, by omega, by go_num, HBW.out.trans (HB3.out.mono HBW.out.size)⟩
              case measure => simp [intOf]; omega
    · have t1 : decide ((j : Int) < l.length) = false := by simp; omega
      obtain rfl : j = l.length := by omega
      have HBW := Lib.hid hbw
      clear hbw
      go_wp2
      go_ret
      exact ⟨⟨_, rfl⟩, HBW.out⟩
theorem blockSize_any : ∀ (n : Nat), ∀ (hd : Hd) (l : List St5) (w : World), Row w hd 21 l stC (StH n w) → Calls Tryz.prog 22 #[.slice hd.oa l.length hd.cap] w fun e w' => SomeIL e ∧ Below w.heap.size w w' := by
  intro n
  induction n using Nat.strongRecOn with
  | _ n ih => exact blockSize_step n ih

def SomeBL (e : Ending) : Prop := ∃ b : Bool, e = .returned (.bool b)

set_option maxRecDepth 100000 in
set_option maxHeartbeats 16000000 in
theorem large_any (n : Nat) (s : So5) (most : Int) (w : World) (hS : SoH n w s) : Calls Tryz.prog 9 #[soV s, .int .i64 most] w fun e w' => SomeBL e ∧ Below w.heap.size w w' := by
  obtain ⟨⟨sa, sc⟩, ss, ⟨ea, ec⟩, es, ⟨fa, fc⟩, fs⟩ := s
  obtain ⟨⟨s1, s2, s3, s4⟩, ⟨e1, e2, e3, e4⟩, f1, f2, f3, f4⟩ := hS
  dsimp only at s1 s2 s3 s4 e1 e2 e3 e4 f1 f2 f3 f4
  unfold maxLen at s2 e2 f2
  replace s3 := Lib.hid s3
  replace s4 := Lib.hid s4
  replace e3 := Lib.hid e3
  replace e4 := Lib.hid e4
  replace f3 := Lib.hid f3
  replace f4 := Lib.hid f4
  simp only [soV]
  obtain ⟨W0, hW0⟩ : ∃ W, W = w.alloc (.cells #[.slice sa ss.length sc, .slice ea es.length ec, .slice fa fs.length fc] 26) := ⟨_, rfl⟩
  have hb0 : Below w.heap.size w W0 := by rw [hW0]; exact alloc_below _ _
  have hx0 : W0.heap[w.heap.size]? = some (.cells #[.slice sa ss.length sc, .slice ea es.length ec, .slice fa fs.length fc] 26) := by rw [hW0, heap_alloc_new]
  have HB0 := Lib.hid hb0
  have HX0 := Lib.hid hx0
  clear hb0 hx0
  go_enter Tryz.func9, Tryz.ntmps9
  go_wp2_with fail
  rw [← hW0]
  clear hW0
  go_loopw [5, 6] (fun s u wr => (∃ z : Int, s = .int .i64 z) ∧ ∃ j : Nat, j ≤ ss.length ∧ u = .int .i64 j ∧ Below w.heap.size w wr ∧ wr.heap[w.heap.size]? = some (.cells #[.slice sa ss.length sc, .slice ea es.length ec, .slice fa fs.length fc] 26)) (fun _ u _ => ss.length - (intOf u).toNat)
  case atStart => exact ⟨⟨_, rfl⟩, 0, by omega, rfl, HB0.out, HX0.out⟩
  case round =>
    clear HB0 HX0
    obtain ⟨⟨z, rfl⟩, j, hj, rfl, hbw, hx⟩ := hrel
    obtain ⟨y0, y1, y2, -, hlt0⟩ := cells3L hx
    by_cases hjl : j < ss.length
    · have t1 : decide ((j : Int) < ss.length) = true := by simp; omega
      obtain ⟨ba, offa, rfl, hlt, hcell⟩ := s3.out (by omega)
      obtain ⟨x, hxj⟩ : ∃ x, ss[j]? = some x := ⟨_, List.getElem?_eq_getElem hjl⟩
      have hmem := s4.out x (List.mem_of_getElem? hxj)
      obtain ⟨un, ud, uh, uf, up⟩ := x
      have hc := Lib.hid (fieldSize_any n uh uf wr (Row.below hmem hbw fun _ _ hx => FdH.below hx hbw))
      have q2 : wr.cell? ⟨ba, offa + j * 4 + 2, none⟩ = some (.slice uh.oa uf.length uh.cap) := (hbw.cell (p := ⟨ba, offa + j * 4 + 2, none⟩) hlt).trans (by simpa using hcell j _ hxj 2 _ rfl)
      have HX := Lib.hid hx
      have HBW := Lib.hid hbw
      clear hxj hcell hmem hx hbw
      go_wp2_with (go_at_call 20; refine hc.out.mono ?_; rintro e w1 ⟨⟨z1, rfl⟩, hb1⟩; have HB1 := Lib.hid (HBW.out.trans (hb1.mono HBW.out.size)); have HX1 := Lib.hid ((hb1.block _ hlt0).trans HX.out); clear hb1)
      go_roundw
      case rel => exact ⟨⟨_, rfl⟩, j + 1, by omega, by go_num, HB1.out, HX1.out⟩
      case measure => simp [intOf]; omega
    · have t1 : decide ((j : Int) < ss.length) = false := by simp; omega
      obtain rfl : j = ss.length := by omega
      obtain ⟨w1, rfl⟩ : ∃ w1 : World, w1 = wr := ⟨_, rfl⟩
      have HB1 := Lib.hid hbw
      have HX1 := Lib.hid hx
      clear hx hbw
      go_wp2_with fail
      clear y0 y1 y2
      go_loopw [5, 7, 8] (fun s u _ wr => (∃ z : Int, s = .int .i64 z) ∧ ∃ j : Nat, j ≤ es.length ∧ u = .int .i64 j ∧ Below w.heap.size w wr ∧ wr.heap[w.heap.size]? = some (.cells #[.slice sa ss.length sc, .slice ea es.length ec, .slice fa fs.length fc] 26)) (fun _ u _ _ => es.length - (intOf u).toNat)
      case atStart => exact ⟨⟨_, rfl⟩, 0, by omega, rfl, HB1.out, HX1.out⟩
      case round =>
        clear HB1 HX1 hlt0
        obtain ⟨⟨z2, rfl⟩, i, hi, rfl, hbw, hx⟩ := hrel
        obtain ⟨y0, y1, y2, -, hlt0⟩ := cells3L hx
        by_cases hil : i < es.length
        · have t2 : decide ((i : Int) < es.length) = true := by simp; omega
          obtain ⟨ba, offa, rfl, hlt, hcell⟩ := e3.out (by omega)
          obtain ⟨x, hxj⟩ : ∃ x, es[i]? = some x := ⟨_, List.getElem?_eq_getElem hil⟩
          have hmem := e4.out x (List.mem_of_getElem? hxj)
          obtain ⟨en, ⟨va, vc⟩, ev, ep⟩ := x
          obtain ⟨v1, v2, v3, v4⟩ := hmem
          dsimp only at v1 v2 v3 v4
          unfold maxLen at v2
          have hq1 : ∀ wr', Below w.heap.size w wr' → wr'.cell? ⟨ba, offa + i * 3 + 1, none⟩ = some (.slice va ev.length vc) := fun wr' h => (h.cell (p := ⟨ba, offa + i * 3 + 1, none⟩) hlt).trans (by simpa using hcell i _ hxj 1 _ rfl)
          have HQ1 := Lib.hid hq1
          replace v3 := Lib.hid v3
          replace v4 := Lib.hid v4
          have HBW := Lib.hid hbw
          have HX := Lib.hid hx
          obtain ⟨wo, rfl⟩ : ∃ wo : World, wo = wr := ⟨_, rfl⟩
          clear hxj hcell hq1 hx hbw
          go_wp2_with fail
          clear y0 y1 y2 hlt0
          go_loopw [5, 8] (fun s u wr => (∃ z : Int, s = .int .i64 z) ∧ ∃ k : Nat, k ≤ ev.length ∧ u = .int .i64 k ∧ Below w.heap.size w wr ∧ wr.heap[w.heap.size]? = some (.cells #[.slice sa ss.length sc, .slice (some ⟨ba, offa, none⟩) es.length ec, .slice fa fs.length fc] 26)) (fun _ u _ => ev.length - (intOf u).toNat)
          case atStart => exact ⟨⟨_, rfl⟩, 0, by omega, rfl, HBW.out, HX.out⟩
          case round =>
            clear HBW HX
            obtain ⟨⟨z3, rfl⟩, k, hk, rfl, hbw, hx⟩ := hrel
            obtain ⟨y0, y1, y2, -, hlt0⟩ := cells3L hx
            have q1 := HQ1.out wr hbw
            by_cases hkl : k < ev.length
            · have t3 : decide ((k : Int) < ev.length) = true := by simp; omega
              obtain ⟨bb, offb, rfl, hltb, hcellb⟩ := v3.out (by omega)
              obtain ⟨x, hxj⟩ : ∃ x, ev[k]? = some x := ⟨_, List.getElem?_eq_getElem hkl⟩
              have hmem := v4.out x (List.mem_of_getElem? hxj)
              obtain ⟨fn1, ⟨k1, nm1, h1, l1⟩⟩ := x
              have hc := tySize_any n (.mk k1 nm1 h1 l1) wr (TyH.below n hmem hbw)
              simp only [tyV, tyC] at hc
              replace hc := Lib.hid hc
              have g0 : wr.cell? ⟨bb, offb + k * 4 + 1, none⟩ = some (.int .i64 k1) := (hbw.cell (p := ⟨bb, offb + k * 4 + 1, none⟩) hltb).trans (by simpa using hcellb k _ hxj 1 _ rfl)
              have g1 : wr.cell? ⟨bb, offb + k * 4 + 1 + 1, none⟩ = some (.string nm1) := (hbw.cell (p := ⟨bb, offb + k * 4 + 1 + 1, none⟩) hltb).trans (by simpa using hcellb k _ hxj 2 _ rfl)
              have g2 : wr.cell? ⟨bb, offb + k * 4 + 1 + 2, none⟩ = some (.slice h1.oa l1.length h1.cap) := (hbw.cell (p := ⟨bb, offb + k * 4 + 1 + 2, none⟩) hltb).trans (by simpa using hcellb k _ hxj 3 _ rfl)
              have HX := Lib.hid hx
              have HBW := Lib.hid hbw
              clear hxj hcellb hmem hx hbw
              go_wp2_with (go_at_call 21; refine hc.out.mono ?_; rintro e w1 ⟨⟨z1, rfl⟩, hb1⟩; have HB1 := Lib.hid (HBW.out.trans (hb1.mono HBW.out.size)); have HX1 := Lib.hid ((hb1.block _ hlt0).trans HX.out); clear hb1)
              go_roundw
              case rel => exact ⟨⟨_, rfl⟩, k + 1, by omega, by go_num, HB1.out, HX1.out⟩
              case measure => simp [intOf]; omega
            · have t3 : decide ((k : Int) < ev.length) = false := by simp; omega
              obtain rfl : k = ev.length := by omega
              have HX := Lib.hid hx
              have HBW := Lib.hid hbw
              clear hx hbw
              go_wp2
              go_roundw
              case rel => exact ⟨⟨_, rfl⟩, i + 1, by omega, by go_num, HBW.out, HX.out⟩
              case measure => simp [intOf]; omega
        · have t2 : decide ((i : Int) < es.length) = false := by simp; omega
          obtain rfl : i = es.length := by omega
          obtain ⟨w2, rfl⟩ : ∃ w2 : World, w2 = wr := ⟨_, rfl⟩
          have HB1 := Lib.hid hbw
          have HX1 := Lib.hid hx
          clear hx hbw
          go_wp2_with fail
          clear y0 y1 y2
          go_loopw [5, 9] (fun s u wr => (∃ z : Int, s = .int .i64 z) ∧ ∃ j : Nat, j ≤ fs.length ∧ u = .int .i64 j ∧ Below w.heap.size w wr ∧ wr.heap[w.heap.size]? = some (.cells #[.slice sa ss.length sc, .slice ea es.length ec, .slice fa fs.length fc] 26)) (fun _ u _ => fs.length - (intOf u).toNat)
          case atStart => exact ⟨⟨_, rfl⟩, 0, by omega, rfl, HB1.out, HX1.out⟩
          case round =>
            clear HB1 HX1 hlt0
            obtain ⟨⟨z4, rfl⟩, q, hq, rfl, hbw, hx⟩ := hrel
            obtain ⟨y0, y1, y2, -, hlt0⟩ := cells3L hx
            by_cases hql : q < fs.length
            · have t3 : decide ((q : Int) < fs.length) = true := by simp; omega
              obtain ⟨ba, offa, rfl, hlt, hcell⟩ := f3.out (by omega)
              obtain ⟨x, hxj⟩ : ∃ x, fs[q]? = some x := ⟨_, List.getElem?_eq_getElem hql⟩
              have hmem := f4.out x (List.mem_of_getElem? hxj)
              obtain ⟨gn, gh, gp, gi, gb, gq⟩ := x
              have hc1 := Lib.hid (fun W (hW : Below wr.heap.size wr W) => fieldSize_any n gh gp W (Row.below hmem.1 (hbw.trans (hW.mono hbw.size)) fun _ _ hx => FdH.below hx (hbw.trans (hW.mono hbw.size))))
              have hc2 := Lib.hid (fun W (hW : Below wr.heap.size wr W) => blockSize_any n gi gb W (Row.below hmem.2 (hbw.trans (hW.mono hbw.size)) fun _ _ hx => StH.below hx (hbw.trans (hW.mono hbw.size))))
              have hqq : ∀ w', Below wr.heap.size wr w' → w'.cell? ⟨w.heap.size, 2, none⟩ = some (.slice (some ⟨ba, offa, none⟩) fs.length fc) ∧ w'.cell? ⟨ba, offa + q * 4 + 1, none⟩ = some (.slice gh.oa gp.length gh.cap) ∧ w'.cell? ⟨ba, offa + q * 4 + 2, none⟩ = some (.slice gi.oa gb.length gi.cap) := fun w' h => by
                have hb2 := hbw.trans (h.mono hbw.size)
                exact ⟨(h.cell (p := ⟨w.heap.size, 2, none⟩) hlt0).trans y2, (hb2.cell (p := ⟨ba, offa + q * 4 + 1, none⟩) hlt).trans (by simpa using hcell q _ hxj 1 _ rfl), (hb2.cell (p := ⟨ba, offa + q * 4 + 2, none⟩) hlt).trans (by simpa using hcell q _ hxj 2 _ rfl)⟩
              clear y0 y1 y2
              obtain ⟨p0, p1, p2⟩ := hqq wr (Below.refl _ _)
              have y2 := p0
              have HQ := Lib.hid hqq
              have HX := Lib.hid hx
              have HBW := Lib.hid hbw
              clear hxj hcell hmem hx hbw hqq
              go_wp2_with fail
              go_region_held3 (fun w' => w'.cell? ⟨w.heap.size, 2, none⟩ = some (.slice (some ⟨ba, offa, none⟩) fs.length fc) ∧ w'.cell? ⟨ba, offa + q * 4 + 1, none⟩ = some (.slice gh.oa gp.length gh.cap) ∧ w'.cell? ⟨ba, offa + q * 4 + 2, none⟩ = some (.slice gi.oa gb.length gi.cap)) (first | (refine ⟨?_, ?_, ?_⟩ <;> assumption) | go_keep)
                (first
                  | (go_at_call 20; refine (hc1.out wr.drew (by exact (Below.refl _ _).drew)).mono ?_; rintro e w3 ⟨⟨z5, rfl⟩, hb3'⟩; have hb3 := undrew2L hb3'; obtain ⟨x0, x1, x2⟩ := HQ.out w3 hb3; have HK3 := Lib.hid hb3; clear hb3' hb3)
                  | (go_at_call 22; refine (hc2.out w3 HK3.out).mono ?_; rintro e w4 ⟨⟨z6, rfl⟩, hb4⟩; have HK4 := Lib.hid (HK3.out.trans (hb4.mono HK3.out.size)); obtain ⟨r0, r1, r2⟩ := HQ.out w4 HK4.out; clear hb4))
              have HB4 := Lib.hid (HBW.out.trans (HK4.out.mono HBW.out.size))
              have HX4 := Lib.hid ((HK4.out.block _ hlt0).trans HX.out)
              clear p0 p1 p2 x0 x1 x2 r0 r1 r2 y2
              go_wp2
              go_roundw
              case rel => exact ⟨⟨_, rfl⟩, q + 1, by omega, by go_num, HB4.out, HX4.out⟩
              case measure => simp [intOf]; omega
            · have t3 : decide ((q : Int) < fs.length) = false := by simp; omega
              obtain rfl : q = fs.length := by omega
              have HBW := Lib.hid hbw
              clear hx hbw
              go_wp2
              go_ret
              exact ⟨⟨_, rfl⟩, HBW.out⟩

end Go.Proofs.YtghkbihgdabamaaGreatDoor
