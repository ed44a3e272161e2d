/-
  validStmt of tree at kind 5. Conditions: the statement lies in the heap; the package variables lie as the program's text lays them.
-/
import Derived.Test.YtgogdcpgfmndnaaGreatDoorTValC
namespace Go.Proofs.YtgogdcpgfmndnaaGreatDoor
open Go.RowKit

set_option maxRecDepth 100000 in
set_option maxHeartbeats 16000000 in
theorem validStmt_5 (n d : Nat) (_hd : d ≤ 60) (sp1 : Int) (sn1 : ByteArray) (k1 : Int) (nm1 : ByteArray) (h1 : Hd) (l1 : List Ty5) (pn1 : ByteArray) (ph1 : Hd) (pp1 : List ByteArray) (rk1 : Int) (rh1 : Hd) (ro1 : List Op5) (pnr1 : ByteArray) (phr1 : Hd) (ppr1 : List ByteArray) (rn1 rr1 : ByteArray) (ono1 : Bool) (oio1 : Int) (pno1 : ByteArray) (pho1 : Hd) (ppo1 : List ByteArray) (ht1 : Hd) (th1 : List St5) (he1 : Hd) (el1 : List St5) (ha1 : Hd) (ar1 : List Ar5) (w : World) (hA : StH (n + 1) w (.mk 5 sp1 sn1 (.mk k1 nm1 h1 l1) ⟨pn1, ph1, pp1⟩ ⟨rk1, rh1, ro1, ⟨pnr1, phr1, ppr1⟩, rn1, rr1⟩ ⟨ono1, oio1, ⟨pno1, pho1, ppo1⟩⟩ ht1 th1 he1 el1 ha1 ar1)) (hV : Vz w)
    (ihR : ∀ (d : Nat), d ≤ 61 → ∀ (h : Hd) (l : List St5) (w : World), Vz w → Row w h 21 l stC (StH n w) → Calls Tryz.prog 78 #[.slice h.oa l.length h.cap, .int .i64 d] w fun e w' => e = .returned (.bool (rowOk d l)) ∧ Below w.heap.size w w')
    (ihA : ∀ (d : Nat), d ≤ 61 → ∀ (x : Ar5) (w : World), Vz w → ArH n w x → Calls Tryz.prog 128 #[arV x, .int .i64 d] w fun e w' => e = .returned (.bool (arOk d x)) ∧ Below w.heap.size w w') :
    Calls Tryz.prog 104 #[stV (.mk 5 sp1 sn1 (.mk k1 nm1 h1 l1) ⟨pn1, ph1, pp1⟩ ⟨rk1, rh1, ro1, ⟨pnr1, phr1, ppr1⟩, rn1, rr1⟩ ⟨ono1, oio1, ⟨pno1, pho1, ppo1⟩⟩ ht1 th1 he1 el1 ha1 ar1), .int .i64 d] w fun e w' => e = .returned (.bool (stOk d (.mk 5 sp1 sn1 (.mk k1 nm1 h1 l1) ⟨pn1, ph1, pp1⟩ ⟨rk1, rh1, ro1, ⟨pnr1, phr1, ppr1⟩, rn1, rr1⟩ ⟨ono1, oio1, ⟨pno1, pho1, ppo1⟩⟩ ht1 th1 he1 el1 ha1 ar1))) ∧ Below w.heap.size w w' := by
  obtain ⟨-, A2, A3, A4, A5, A6, A7, A8⟩ := hA
  obtain ⟨R, hR⟩ : ∃ R, R = stOk d (.mk 5 sp1 sn1 (.mk k1 nm1 h1 l1) ⟨pn1, ph1, pp1⟩ ⟨rk1, rh1, ro1, ⟨pnr1, phr1, ppr1⟩, rn1, rr1⟩ ⟨ono1, oio1, ⟨pno1, pho1, ppo1⟩⟩ ht1 th1 he1 el1 ha1 ar1) := ⟨_, rfl⟩
  rw [← hR]
  obtain ⟨m, rfl⟩ : ∃ m, n = m + 1 := by cases n with | zero => exact A2.elim | succ m => exact ⟨m, rfl⟩
  have hRst : StH (m + 1 + 1) w (.mk 5 sp1 sn1 (.mk k1 nm1 h1 l1) ⟨pn1, ph1, pp1⟩ ⟨rk1, rh1, ro1, ⟨pnr1, phr1, ppr1⟩, rn1, rr1⟩ opZ ht1 th1 he1 el1 ha1 ar1) := ⟨⟨by decide, by decide⟩, A2, A3, A4, opZ_H _, A6, A7, A8⟩
  replace hR : R = ((opOk ⟨ono1, oio1, ⟨pno1, pho1, ppo1⟩⟩) && stEq (.mk 5 sp1 sn1 (.mk k1 nm1 h1 l1) ⟨pn1, ph1, pp1⟩ ⟨rk1, rh1, ro1, ⟨pnr1, phr1, ppr1⟩, rn1, rr1⟩ opZ ht1 th1 he1 el1 ha1 ar1) (stZ 5)) := hR.trans (stOk_5 ..)
  have hc0 : ∀ W, Below w.heap.size w W → Calls Tryz.prog 124 #[opV ⟨ono1, oio1, ⟨pno1, pho1, ppo1⟩⟩] W fun e w' => e = .returned (.bool (opOk ⟨ono1, oio1, ⟨pno1, pho1, ppo1⟩⟩)) ∧ Below W.heap.size W w' := fun W hW => validOper_any _ W (A5.below hW) (hV.b hW)
  obtain ⟨b0, hb0⟩ : ∃ b, b = (opOk ⟨ono1, oio1, ⟨pno1, pho1, ppo1⟩⟩) := ⟨_, rfl⟩
  rw [← hb0] at hR hc0
  clear hb0
  simp only [opV, opC, plC, List.cons_append, List.nil_append] at hc0
  replace hc0 := Lib.hid hc0
  have hs : ∀ W, Below w.heap.size w W → Calls Tryz.prog 98 #[.agg (stC (.mk 5 sp1 sn1 (.mk k1 nm1 h1 l1) ⟨pn1, ph1, pp1⟩ ⟨rk1, rh1, ro1, ⟨pnr1, phr1, ppr1⟩, rn1, rr1⟩ opZ ht1 th1 he1 el1 ha1 ar1)).toArray, .agg #[.int .i64 5, .int .i64 0, .string ⟨#[]⟩, .int .i64 0, .string ⟨#[]⟩, .slice none 0 0, .string ⟨#[]⟩, .slice none 0 0, .int .i64 0, .slice none 0 0, .string ⟨#[]⟩, .slice none 0 0, .string ⟨#[]⟩, .string ⟨#[]⟩, .bool false, .int .i64 0, .string ⟨#[]⟩, .slice none 0 0, .slice none 0 0, .slice none 0 0, .slice none 0 0]] W fun e w' => e = .returned (.bool (stEq (.mk 5 sp1 sn1 (.mk k1 nm1 h1 l1) ⟨pn1, ph1, pp1⟩ ⟨rk1, rh1, ro1, ⟨pnr1, phr1, ppr1⟩, rn1, rr1⟩ opZ ht1 th1 he1 el1 ha1 ar1) (stZ 5))) ∧ Below W.heap.size W w' := fun W hW => sameStmt_any (m + 1 + 1) (.mk 5 sp1 sn1 (.mk k1 nm1 h1 l1) ⟨pn1, ph1, pp1⟩ ⟨rk1, rh1, ro1, ⟨pnr1, phr1, ppr1⟩, rn1, rr1⟩ opZ ht1 th1 he1 el1 ha1 ar1) (stZ 5) W (StH.below hRst hW) (stZ_H _ 5 ⟨by decide, by decide⟩ W)
  obtain ⟨bs_, hbs⟩ : ∃ b, b = stEq (.mk 5 sp1 sn1 (.mk k1 nm1 h1 l1) ⟨pn1, ph1, pp1⟩ ⟨rk1, rh1, ro1, ⟨pnr1, phr1, ppr1⟩, rn1, rr1⟩ opZ ht1 th1 he1 el1 ha1 ar1) (stZ 5) := ⟨_, rfl⟩
  rw [← hbs] at hR hs
  clear hbs hRst
  replace hs := Lib.hid hs
  clear A2 A3 A4 A5 A6 A7 A8 ihR ihA hV
  obtain ⟨cr, hcr⟩ : ∃ c, c = stC (.mk 5 sp1 sn1 (.mk k1 nm1 h1 l1) ⟨pn1, ph1, pp1⟩ ⟨rk1, rh1, ro1, ⟨pnr1, phr1, ppr1⟩, rn1, rr1⟩ opZ ht1 th1 he1 el1 ha1 ar1) := ⟨_, rfl⟩
  have hspl : splL (stC (.mk 5 sp1 sn1 (.mk k1 nm1 h1 l1) ⟨pn1, ph1, pp1⟩ ⟨rk1, rh1, ro1, ⟨pnr1, phr1, ppr1⟩, rn1, rr1⟩ ⟨ono1, oio1, ⟨pno1, pho1, ppo1⟩⟩ ht1 th1 he1 el1 ha1 ar1)) 14 [.bool false, .int .i64 0, .string ⟨#[]⟩, .slice none 0 0] = cr := by rw [hcr]; rfl
  rw [← hcr] at hs
  have hcrl := hcr ▸ stC_info (.mk 5 sp1 sn1 (.mk k1 nm1 h1 l1) ⟨pn1, ph1, pp1⟩ ⟨rk1, rh1, ro1, ⟨pnr1, phr1, ppr1⟩, rn1, rr1⟩ opZ ht1 th1 he1 el1 ha1 ar1)
  have ecr0 : cr[0]? = some (.int .i64 5) := by rw [hcr]; rfl
  clear hcr
  simp only [stV]
  obtain ⟨c1, hc1'⟩ : ∃ c, c = stC (.mk 5 sp1 sn1 (.mk k1 nm1 h1 l1) ⟨pn1, ph1, pp1⟩ ⟨rk1, rh1, ro1, ⟨pnr1, phr1, ppr1⟩, rn1, rr1⟩ ⟨ono1, oio1, ⟨pno1, pho1, ppo1⟩⟩ ht1 th1 he1 el1 ha1 ar1) := ⟨_, rfl⟩
  have hcl : c1.length = 21 := by rw [hc1']; exact stC_len _
  have hci : (Tryz.prog.info? 52).map (·.size) = some c1.length := by rw [hcl]; exact info52
  have hco : ∀ v ∈ c1, v.oneCell' = true := by rw [hc1']; exact stC_one _
  rw [← hc1'] at hspl ⊢
  have e0 : c1[0]? = some (.int .i64 5) := by rw [hc1']; rfl
  have e14 : c1[14]? = some (.bool ono1) := by rw [hc1']; rfl
  have e15 : c1[15]? = some (.int .i64 oio1) := by rw [hc1']; rfl
  have e16 : c1[16]? = some (.string pno1) := by rw [hc1']; rfl
  have e17 : c1[17]? = some (.slice pho1.oa ppo1.length pho1.cap) := by rw [hc1']; rfl
  clear hc1'
  obtain ⟨W0, hW0⟩ : ∃ W, W = ((w.alloc (.cells c1.toArray 52)).alloc (.cells #[.int .i64 d] 3)) := ⟨_, rfl⟩
  have HW0 : Below w.heap.size w W0 := by rw [hW0]; exact ((Below.refl _ _).alloc (Nat.le_refl _) _).alloc (by simp) _
  have hs0 : W0.heap.size = w.heap.size + 2 := by rw [hW0]; simp
  have r0 : W0.rangeAt w.heap.size 0 c1 := by rw [hW0]; exact rangeAt_below (rangeAt_box w c1 52) (alloc_below _ _)
  have r1 : W0.cell? ⟨w.heap.size + 1, 0, none⟩ = some (.int .i64 d) := by
    rw [hW0]
    simp
  have hz0 := Lib.hid (show ∀ w', Below W0.heap.size W0 w' → (w'.cell? ⟨w.heap.size, 0, none⟩ = some (.int .i64 5) ∧ w'.cell? ⟨w.heap.size, 14, none⟩ = some (.bool ono1) ∧ w'.cell? ⟨w.heap.size, 15, none⟩ = some (.int .i64 oio1) ∧ w'.cell? ⟨w.heap.size, 16, none⟩ = some (.string pno1) ∧ w'.cell? ⟨w.heap.size, 17, none⟩ = some (.slice pho1.oa ppo1.length pho1.cap)) from fun w' hb => ⟨rangeAt_below r0 hb 0 _ e0, rangeAt_below r0 hb 14 _ e14, rangeAt_below r0 hb 15 _ e15, rangeAt_below r0 hb 16 _ e16, rangeAt_below r0 hb 17 _ e17⟩)
  have hr0 := Lib.hid (show ((w.alloc (.cells c1.toArray 52)).alloc (.cells #[.int .i64 d] 3)).rangeAt w.heap.size 0 c1 by rw [← hW0]; exact r0)
  clear r0 r1 e0 e14 e15 e16 e17
  replace HW0 := Lib.hid HW0
  replace hs0 := Lib.hid hs0
  replace hco := Lib.hid hco
  replace hci := Lib.hid hci
  replace hcl := Lib.hid hcl
  replace hspl := Lib.hid hspl
  replace hcrl := Lib.hid hcrl
  replace ecr0 := Lib.hid ecr0
  cases b0 with
  | false =>
    have HR := Lib.hid (show R = false by rw [hR]; first | done | rfl | simp)
    clear hR
    go_enter Tryz.func104, Tryz.ntmps104
    go_wp2_with (first
        | (refine wpList_load_mid rfl 52 (.tmp 2) rfl w.heap.size 0 rfl c1 _ hr0.out Tryz.underlying52 rfl hci.out ?_)
        | (refine wpList_store_new2 rfl 52 (.tmp 5) (.tmp 7) rfl _ _ _ (w.heap.size + 2) (by simp) rfl c1 rfl (by rw [hcl.out]; rfl) hci.out hco.out ?_; rw [← hW0]; intro W1 HK1 hbx1 hs1; have HB1 := HW0.out.trans (HK1.mono HW0.out.size); obtain ⟨z0_0, z0_1, z0_2, z0_3, z0_4⟩ := hz0.out W1 HK1; replace hbx1 := Lib.hid hbx1; replace HK1 := Lib.hid HK1; replace HB1 := Lib.hid HB1; clear hs1))
    refine (hc0.out _ HB1.out).mono ?_
    rintro e W2 ⟨rfl, hbq⟩
    have hbx2 := Lib.hid ((hbq.block _ (Array.getElem?_eq_some_iff.1 hbx1.out).1).trans hbx1.out)
    have HB2 := Lib.hid (HB1.out.trans (hbq.mono HB1.out.size))
    have HK2 := Lib.hid (HK1.out.trans (hbq.mono HK1.out.size))
    clear hbq
    go_wp2_with (first
        | (refine wpList_store_box rfl 41 (.tmp 104) (.tmp 103) rfl (w.heap.size + 2) 14 rfl (.agg #[.bool false, .int .i64 0, .string ⟨#[]⟩, .slice none 0 0]) rfl [.bool false, .int .i64 0, .string ⟨#[]⟩, .slice none 0 0] rfl c1 52 hbx2.out (by rw [hcl.out]; decide) (by kernel_rfl) (by intro v hv; simp at hv; first | (rcases hv with rfl | rfl | rfl | rfl | rfl | rfl <;> rfl) | (rcases hv with rfl | rfl | rfl | rfl | rfl <;> rfl) | (rcases hv with rfl | rfl | rfl | rfl <;> rfl) | (rcases hv with rfl | rfl | rfl <;> rfl) | (rcases hv with rfl | rfl <;> rfl) | (subst hv; rfl)) w.heap.size (Nat.le_add_right _ _) w HB2.out ?_; intro X0 Hx0' hx0' hq; rw [hspl.out] at hx0'; clear hq; have hx0 := Lib.hid hx0'; have Hx0 := Lib.hid Hx0'; clear hx0' Hx0'))
    go_ret
    exact ⟨by rw [HR.out]; first | done | rfl, Hx0.out⟩
  | true =>
    have HR := Lib.hid (show R = bs_ by rw [hR]; first | done | rfl | simp)
    clear hR
    go_enter Tryz.func104, Tryz.ntmps104
    go_wp2_with (first
        | (refine wpList_load_mid rfl 52 (.tmp 2) rfl w.heap.size 0 rfl c1 _ hr0.out Tryz.underlying52 rfl hci.out ?_)
        | (refine wpList_store_new2 rfl 52 (.tmp 5) (.tmp 7) rfl _ _ _ (w.heap.size + 2) (by simp) rfl c1 rfl (by rw [hcl.out]; rfl) hci.out hco.out ?_; rw [← hW0]; intro W1 HK1 hbx1 hs1; have HB1 := HW0.out.trans (HK1.mono HW0.out.size); obtain ⟨z0_0, z0_1, z0_2, z0_3, z0_4⟩ := hz0.out W1 HK1; replace hbx1 := Lib.hid hbx1; replace HK1 := Lib.hid HK1; replace HB1 := Lib.hid HB1; clear hs1))
    refine (hc0.out _ HB1.out).mono ?_
    rintro e W2 ⟨rfl, hbq⟩
    have hbx2 := Lib.hid ((hbq.block _ (Array.getElem?_eq_some_iff.1 hbx1.out).1).trans hbx1.out)
    have HB2 := Lib.hid (HB1.out.trans (hbq.mono HB1.out.size))
    have HK2 := Lib.hid (HK1.out.trans (hbq.mono HK1.out.size))
    clear hbq
    have zk := (hz0.out _ HK2.out).1
    go_wp2_with (first
        | (refine wpList_store_box rfl 41 (.tmp 104) (.tmp 103) rfl (w.heap.size + 2) 14 rfl (.agg #[.bool false, .int .i64 0, .string ⟨#[]⟩, .slice none 0 0]) rfl [.bool false, .int .i64 0, .string ⟨#[]⟩, .slice none 0 0] rfl c1 52 hbx2.out (by rw [hcl.out]; decide) (by kernel_rfl) (by intro v hv; simp at hv; first | (rcases hv with rfl | rfl | rfl | rfl | rfl | rfl <;> rfl) | (rcases hv with rfl | rfl | rfl | rfl | rfl <;> rfl) | (rcases hv with rfl | rfl | rfl | rfl <;> rfl) | (rcases hv with rfl | rfl | rfl <;> rfl) | (rcases hv with rfl | rfl <;> rfl) | (subst hv; rfl)) w.heap.size (Nat.le_add_right _ _) w HB2.out ?_; intro X0 Hx0' hx0' hq; rw [hspl.out] at hx0'; have zk0 := cell_other hq (k := w.heap.size) (by omega) zk; clear hq zk; have hx0 := Lib.hid hx0'; have Hx0 := Lib.hid Hx0'; clear hx0' Hx0')
        | (refine wpList_load_midW (by rfl) 52 (.tmp 5) rfl (w.heap.size + 2) 0 rfl cr _ (rangeAt_of_box hx0.out) Tryz.underlying52 rfl hcrl.out ?_)
        | (go_at_call 98; refine (hs.out _ Hx0.out).mono ?_; rintro e Y ⟨rfl, hby⟩; have HY := Lib.hid (Hx0.out.trans (hby.mono Hx0.out.size)); clear hby))
    go_ret
    exact ⟨by rw [HR.out]; first | done | rfl, HY.out⟩

end Go.Proofs.YtgogdcpgfmndnaaGreatDoor
