/-
  Several texts of the proof in one: PBeg, PRis, PPlP. No conditions of their own: each lemma states its own.
-/
import Derived.Test.YthmiapolpohklaaGreatDoorJPWorks
import Derived.Test.YthmiapolpohklaaGreatDoorJPNz
import Derived.Deep.QuietTactic
import Derived.BigQuiet
namespace Go.Proofs.YthmiapolpohklaaGreatDoor
open Go.RowKit

set_option maxRecDepth 100000 in
set_option maxHeartbeats 4000000 in
theorem begins_any {w : World} {g cap : Nat} {L : List Tok} (p : Int) (u : List UInt8) (hT : ToksAt w g L) (hn : L.length ≤ 70000) :
    Calls Tryz.prog 14 #[.slice (some ⟨g, 0, none⟩) L.length cap, .int .i64 p, .string (strB u)] w fun e w' => e = .returned (.bool (begB L p u)) ∧ w' = w := by
  obtain ⟨R, hR⟩ : ∃ R, begB L p u = R := ⟨_, rfl⟩
  rw [hR]
  obtain ⟨m, hm⟩ : ∃ m, L.length = m := ⟨_, rfl⟩
  rw [hm] at hn ⊢
  obtain ⟨z, hz⟩ : ∃ z, strB u = z := ⟨_, rfl⟩
  rw [hz]
  have HZ := Lib.hid hz
  have HT := Lib.hid hT
  have HM := Lib.hid hm
  have HR := Lib.hid hR
  have HN := Lib.hid hn
  clear hz hT hm hR hn
  go_enter Tryz.func14, Tryz.ntmps14
  go_wp2_with fail
  go_loopw [7] (fun u7 wr => ∃ j : Nat, j ≤ m ∧ u7 = .int .i64 j ∧ wr = w ∧ begB (L.drop j) p u = R) (fun u7 _ => m - (intOf u7).toNat)
  case atStart => exact ⟨0, Nat.zero_le _, rfl, rfl, HR.out⟩
  case round =>
    obtain ⟨j, hj, rfl, hw, hb⟩ := hrel
    subst hw
    have HB := Lib.hid hb
    have hn := HN.out
    by_cases hjm : j < m
    · have t1 : decide ((j : Int) < m) = true := by simp; omega
      have hj0 : (0 : Int) ≤ j := by omega
      have hj1 : (j : Int) < m := by omega
      obtain ⟨t, ht⟩ : ∃ t, L[j]? = some t := ⟨L[j]'(by rw [HM.out]; exact hjm), List.getElem?_eq_getElem _⟩
      obtain ⟨a0, a1, a2, a3⟩ := HT.out.2 j t ht
      have hd : L.drop j = t :: L.drop (j + 1) := by
        rw [List.drop_eq_getElem_cons (by rw [HM.out]; exact hjm)]
        congr 1
        rw [List.getElem?_eq_getElem (by rw [HM.out]; exact hjm)] at ht
        exact Option.some.inj ht
      have HD := Lib.hid hd
      clear hb hd ht
      by_cases hp : (t.pos : Int) = p
      · have t2 : ((t.pos : Int) == p) = true := by simpa using hp
        have hres : R = (decide (u = []) || decide (t.text = u)) := by
          rw [← HB.out, HD.out]
          unfold begB
          rw [List.find?_cons_of_pos (by simpa using hp)]
        have HRS := Lib.hid hres
        clear hp hres
        by_cases hu : u = []
        · have hs1 : z = ⟨#[]⟩ := by rw [← HZ.out, hu]; rfl
          have HU := Lib.hid hu
          subst hs1
          clear hu
          go_wp2
          go_ret
          exact ⟨by rw [HRS.out, HU.out]; simp, rfl⟩
        · have hz2 : (z.toList == []) = false := by rw [← HZ.out, strB_toList]; simpa using hu
          have hz3 : z.toList.isEmpty = false := by rw [← HZ.out, strB_toList]; cases u with | nil => exact absurd rfl hu | cons _ _ => rfl
          have hz4 : ((strB t.text).toList == z.toList) = decide (t.text = u) := by rw [← HZ.out]; exact str_eq _ _
          have HU := Lib.hid hu
          clear hu
          go_wp2
          go_ret
          exact ⟨by rw [HRS.out]; simp [HU.out], rfl⟩
      · have t2 : ((t.pos : Int) == p) = false := by simpa using hp
        have hres : begB (L.drop (j + 1)) p u = R := by
          rw [← HB.out, HD.out]
          unfold begB
          rw [List.find?_cons_of_neg (by simpa using hp)]
        have HRS := Lib.hid hres
        clear hp hres
        go_wp2
        go_roundw
        case rel => exact ⟨j + 1, by omega, by go_num, by first | rfl | trivial, HRS.out⟩
        case measure => simp [intOf]; omega
    · have t1 : decide ((j : Int) < m) = false := by simp; omega
      have hres : R = false := by
        rw [← HB.out, List.drop_eq_nil_of_le (by rw [HM.out]; omega)]
        rfl
      have HRS := Lib.hid hres
      clear hb hres
      go_wp2
      go_ret
      exact ⟨by rw [HRS.out]; rfl, rfl⟩
end Go.Proofs.YthmiapolpohklaaGreatDoor

namespace Go.Proofs.YthmiapolpohklaaGreatDoor
open Go.RowKit

theorem dn_below (w : World) (k : Nat) : Below w.heap.size w (w.drewN k) := ⟨rfl, rfl, rfl, Nat.le_refl _, fun _ _ => rfl⟩
theorem dnB {B : Nat} {w W : World} (h : Below B w W) (k : Nat) : Below B w (W.drewN k) := h.trans ⟨rfl, rfl, rfl, Nat.le_refl _, fun _ _ => rfl⟩
def RisC (n : Nat) : Prop := ∀ {w : World} {g cap : Nat} {L : List Tok}, ToksAt w g L → L.length ≤ 70000 → ∀ (hb : Hd) (b : List St5) (p : Int), Row w hb 21 b stC (StH n w) →
    Calls Tryz.prog 15 #[.slice (some ⟨g, 0, none⟩) L.length cap, .slice hb.oa b.length hb.cap, .int .i64 p] w fun e w' => e = .returned (.bool (risSts L b p)) ∧ ∃ m, w' = w.drewN m
set_option maxRecDepth 100000 in
set_option maxHeartbeats 40000000 in
theorem rising_step (n : Nat) (ih : ∀ k, k < n → RisC k) : RisC n := by
  intro w g cap L hT hn hb b p hrow
  obtain ⟨R, hR⟩ : ∃ R, risSts L b p = R := ⟨_, rfl⟩
  rw [hR]
  have HRW := Lib.hid hrow
  obtain ⟨r1, r2, r3, r4⟩ := hrow
  obtain ⟨oa, hoa⟩ : ∃ oa, hb.oa = oa := ⟨_, rfl⟩
  obtain ⟨cp, hcp⟩ : ∃ c, hb.cap = c := ⟨_, rfl⟩
  obtain ⟨nb, hnb⟩ : ∃ k, b.length = k := ⟨_, rfl⟩
  obtain ⟨nl, hnl⟩ : ∃ k, L.length = k := ⟨_, rfl⟩
  rw [hoa] at r3
  rw [hoa, hcp, hnb, hnl]
  have HNB := Lib.hid hnb
  have HBN := Lib.hid (show nb ≤ 9223372036854775807 by unfold maxLen at r2; omega)
  have HT := Lib.hid hT
  have HL := Lib.hid (And.intro hn hnl)
  have HR := Lib.hid hR
  have H3 := Lib.hid r3
  have H4 := Lib.hid r4
  have IH := Lib.hid ih
  clear hoa hcp hnb hnl hT hn hR r1 r2 r3 r4 ih HRW
  go_enter Tryz.func15, Tryz.ntmps15
  go_wp2_with fail
  go_loopw [2, 7] (fun u2 u7 wr => ∃ (j m : Nat) (q : Int), j ≤ nb ∧ u7 = .int .i64 j ∧ u2 = .int .i64 q ∧ wr = w.drewN m ∧ risSts L (b.drop j) q = R) (fun _ u7 _ => nb - (intOf u7).toNat)
  case atStart => exact ⟨0, 0, p, Nat.zero_le _, rfl, rfl, rfl, HR.out⟩
  case round =>
    obtain ⟨j, m0, q, hj, rfl, rfl, hw, hb⟩ := hrel
    obtain ⟨W, hWW⟩ : ∃ W, W = wr := ⟨_, rfl⟩
    rw [← hWW]
    have HW := Lib.hid (show Below w.heap.size w W by rw [hWW, hw]; exact dn_below _ _)
    have HDW := Lib.hid (show ∃ m, W = w.drewN m from ⟨m0, by rw [hWW, hw]⟩)
    have HWC := Lib.hid (show ∀ a, W.cell? a = w.cell? a from fun a => by rw [hWW, hw]; rfl)
    clear hWW hw
    have HB := Lib.hid hb
    clear hb
    have hbn := HBN.out
    by_cases hjn : j < nb
    · have t1 : decide ((j : Int) < nb) = true := by simp; omega
      have hj0 : (0 : Int) ≤ j := by omega
      have hj1 : (j : Int) < nb := by omega
      obtain ⟨bk, off, rfl, hlt, hc⟩ := H3.out (by rw [HNB.out]; omega)
      have hjl : j < b.length := by rw [HNB.out]; exact hjn
      obtain ⟨x, hx⟩ : ∃ x, b[j]? = some x := ⟨b[j], List.getElem?_eq_getElem _⟩
      have hd : b.drop j = x :: b.drop (j + 1) := by
        rw [List.drop_eq_getElem_cons hjl]
        congr 1
        rw [List.getElem?_eq_getElem hjl] at hx
        exact Option.some.inj hx
      have hsx := H4.out x (List.mem_of_getElem? hx)
      obtain ⟨xk, xq, xnm, ⟨tk, tn, tth, tl⟩, ⟨pn, ph, pp⟩, ⟨rk, rh, ro, ⟨rpn, rph, rpp⟩, rn, rv⟩, ⟨on, oi, ⟨opn, oph, opp⟩⟩, ht, th, he, el, ha, ar⟩ := x
      obtain ⟨n', rfl⟩ : ∃ n', n = n' + 1 := by
        cases n with
        | zero => unfold StH at hsx; exact hsx.elim
        | succ n' => exact ⟨n', rfl⟩
      unfold StH at hsx
      obtain ⟨_, _, _, _, _, qth, qel, qar⟩ := hsx
      have a1 := (HWC.out _).trans (hc j _ hx 1 (.int .i64 xq) rfl)
      have a18 := (HWC.out _).trans (hc j _ hx 18 (.slice ht.oa th.length ht.cap) rfl)
      have a19 := (HWC.out _).trans (hc j _ hx 19 (.slice he.oa el.length he.cap) rfl)
      have a20 := (HWC.out _).trans (hc j _ hx 20 (.slice ha.oa ar.length ha.cap) rfl)
      have hnl2 := HL.out.2
      have hth := Lib.hid (show ∀ V, Below w.heap.size w V → Calls Tryz.prog 15 #[.slice (some ⟨g, 0, none⟩) nl cap, .slice ht.oa th.length ht.cap, .int .i64 xq] V fun e w' => e = .returned (.bool (risSts L th xq)) ∧ ∃ m, w' = V.drewN m from fun V hV => by
        rw [← hnl2]
        exact IH.out n' (Nat.lt_succ_self _) (HT.out.below hV) HL.out.1 ht th xq (qth.below hV fun y _ hy => StH.below hy hV))
      have hel := Lib.hid (show ∀ V, Below w.heap.size w V → Calls Tryz.prog 15 #[.slice (some ⟨g, 0, none⟩) nl cap, .slice he.oa el.length he.cap, .int .i64 xq] V fun e w' => e = .returned (.bool (risSts L el xq)) ∧ ∃ m, w' = V.drewN m from fun V hV => by
        rw [← hnl2]
        exact IH.out n' (Nat.lt_succ_self _) (HT.out.below hV) HL.out.1 he el xq (qel.below hV fun y _ hy => StH.below hy hV))
      have hbg := Lib.hid (show Calls Tryz.prog 14 #[.slice (some ⟨g, 0, none⟩) nl cap, .int .i64 xq, .string ⟨#[]⟩] W fun e w' => e = .returned (.bool (begB L xq [])) ∧ w' = W from by
        rw [← hnl2]
        exact begins_any xq [] (HT.out.below HW.out) HL.out.1)
      have hrr : (begB L xq [] && risSts L th xq && risSts L el xq && decide (q < xq) && risArs L ar xq && risSts L (b.drop (j + 1)) xq) = R := by
        rw [← HB.out, hd, risSts, risSt, posSt]
      have QAR := Lib.hid qar
      have HRR := Lib.hid hrr
      obtain ⟨b1, hb1⟩ : ∃ c, begB L xq [] = c := ⟨_, rfl⟩
      obtain ⟨b2, hb2⟩ : ∃ c, risSts L th xq = c := ⟨_, rfl⟩
      obtain ⟨b3, hb3⟩ : ∃ c, risSts L el xq = c := ⟨_, rfl⟩
      have hrr2 := HRR.out
      have hbg2 := hbg.out
      have hth2 := hth.out
      have hel2 := hel.out
      rw [hb1, hb2, hb3] at hrr2
      rw [hb1] at hbg2
      simp only [hb2] at hth2
      simp only [hb3] at hel2
      replace HRR := Lib.hid hrr2
      replace hbg := Lib.hid hbg2
      replace hth := Lib.hid hth2
      replace hel := Lib.hid hel2
      obtain ⟨nt, hnt⟩ : ∃ k, th.length = k := ⟨_, rfl⟩
      obtain ⟨ne, hne⟩ : ∃ k, el.length = k := ⟨_, rfl⟩
      obtain ⟨na, hna⟩ : ∃ k, ar.length = k := ⟨_, rfl⟩
      rw [hnt] at a18
      rw [hne] at a19
      rw [hna] at a20
      obtain ⟨oar, hoar⟩ : ∃ o, ha.oa = o := ⟨_, rfl⟩
      obtain ⟨car, hcar⟩ : ∃ o, ha.cap = o := ⟨_, rfl⟩
      rw [hoar, hcar] at a20
      have HOA := Lib.hid hoar
      have H20 := Lib.hid ((HWC.out _).symm.trans a20)
      clear hoar hcar
      have hth3 := hth.out
      rw [hnt] at hth3
      replace hth := Lib.hid hth3
      have hel3 := hel.out
      rw [hne] at hel3
      replace hel := Lib.hid hel3
      have HNA := Lib.hid hna
      clear hth3 hel3 hc hx hd hjl qth qel qar hrr hrr2 hbg2 hth2 hel2 hb1 hb2 hb3 hnt hne hna hnl2
      cases b1 with
      | false =>
        have HE := Lib.hid (show false = R by rw [← HRR.out]; simp)
        have hq0 : decide (xq ≤ q) = decide (xq ≤ q) := rfl
        go_upto_region 5 with (go_at_call 14; refine hbg.out.mono ?_; rintro e w1 ⟨rfl, h9⟩; replace h9 := h9.symm; subst h9)
        go_quiet (first | (go_at_call 15; refine Calls.quiet_of (hth.out _ (dnB HW.out _))))
        obtain ⟨W2, hW2⟩ : ∃ V, V = W.drewN nq := ⟨_, rfl⟩
        rw [← hW2]
        have HW2 := Lib.hid (show Below w.heap.size w W2 by rw [hW2]; exact dnB HW.out _)
        have HDW2 := Lib.hid (show ∃ m, W2 = w.drewN m by obtain ⟨m, hm⟩ := HDW.out; exact ⟨m + nq, by rw [hW2, hm, World.drewN_drewN]⟩)
        replace a1 : W2.cell? ⟨bk, off + j * 21 + 1, none⟩ = some (.int .i64 xq) := by rw [hW2]; exact a1
        replace a18 : W2.cell? ⟨bk, off + j * 21 + 18, none⟩ = some (.slice ht.oa nt ht.cap) := by rw [hW2]; exact a18
        replace a19 : W2.cell? ⟨bk, off + j * 21 + 19, none⟩ = some (.slice he.oa ne he.cap) := by rw [hW2]; exact a19
        replace a20 : W2.cell? ⟨bk, off + j * 21 + 20, none⟩ = some (.slice oar na car) := by rw [hW2]; exact a20
        clear hW2 nq
        go_upto_region 6 with fail
        go_quiet (first | (go_at_call 15; refine Calls.quiet_of (hel.out _ (dnB HW2.out _))))
        obtain ⟨W3, hW3⟩ : ∃ V, V = W2.drewN nq := ⟨_, rfl⟩
        rw [← hW3]
        have HW3 := Lib.hid (show Below w.heap.size w W3 by rw [hW3]; exact dnB HW2.out _)
        have HDW3 := Lib.hid (show ∃ m, W3 = w.drewN m by obtain ⟨m, hm⟩ := HDW2.out; exact ⟨m + nq, by rw [hW3, hm, World.drewN_drewN]⟩)
        replace a1 : W3.cell? ⟨bk, off + j * 21 + 1, none⟩ = some (.int .i64 xq) := by rw [hW3]; exact a1
        replace a18 : W3.cell? ⟨bk, off + j * 21 + 18, none⟩ = some (.slice ht.oa nt ht.cap) := by rw [hW3]; exact a18
        replace a19 : W3.cell? ⟨bk, off + j * 21 + 19, none⟩ = some (.slice he.oa ne he.cap) := by rw [hW3]; exact a19
        replace a20 : W3.cell? ⟨bk, off + j * 21 + 20, none⟩ = some (.slice oar na car) := by rw [hW3]; exact a20
        clear hW3 nq
        go_wp2
        go_ret
        exact ⟨by rw [← HE.out]; rfl, HDW3.out⟩
      | true =>
        by_cases hq : xq ≤ q
        · have t2 : decide (xq ≤ q) = true := by simpa using hq
          have HE := Lib.hid (show false = R by rw [← HRR.out]; simp; intro _ _ h; omega)
          clear hq
          go_upto_region 5 with (go_at_call 14; refine hbg.out.mono ?_; rintro e w1 ⟨rfl, h9⟩; replace h9 := h9.symm; subst h9)
          go_quiet (first | (go_at_call 15; refine Calls.quiet_of (hth.out _ (dnB HW.out _))))
          obtain ⟨W2, hW2⟩ : ∃ V, V = W.drewN nq := ⟨_, rfl⟩
          rw [← hW2]
          have HW2 := Lib.hid (show Below w.heap.size w W2 by rw [hW2]; exact dnB HW.out _)
          have HDW2 := Lib.hid (show ∃ m, W2 = w.drewN m by obtain ⟨m, hm⟩ := HDW.out; exact ⟨m + nq, by rw [hW2, hm, World.drewN_drewN]⟩)
          replace a1 : W2.cell? ⟨bk, off + j * 21 + 1, none⟩ = some (.int .i64 xq) := by rw [hW2]; exact a1
          replace a18 : W2.cell? ⟨bk, off + j * 21 + 18, none⟩ = some (.slice ht.oa nt ht.cap) := by rw [hW2]; exact a18
          replace a19 : W2.cell? ⟨bk, off + j * 21 + 19, none⟩ = some (.slice he.oa ne he.cap) := by rw [hW2]; exact a19
          replace a20 : W2.cell? ⟨bk, off + j * 21 + 20, none⟩ = some (.slice oar na car) := by rw [hW2]; exact a20
          clear hW2 nq
          go_upto_region 6 with fail
          go_quiet (first | (go_at_call 15; refine Calls.quiet_of (hel.out _ (dnB HW2.out _))))
          obtain ⟨W3, hW3⟩ : ∃ V, V = W2.drewN nq := ⟨_, rfl⟩
          rw [← hW3]
          have HW3 := Lib.hid (show Below w.heap.size w W3 by rw [hW3]; exact dnB HW2.out _)
          have HDW3 := Lib.hid (show ∃ m, W3 = w.drewN m by obtain ⟨m, hm⟩ := HDW2.out; exact ⟨m + nq, by rw [hW3, hm, World.drewN_drewN]⟩)
          replace a1 : W3.cell? ⟨bk, off + j * 21 + 1, none⟩ = some (.int .i64 xq) := by rw [hW3]; exact a1
          replace a18 : W3.cell? ⟨bk, off + j * 21 + 18, none⟩ = some (.slice ht.oa nt ht.cap) := by rw [hW3]; exact a18
          replace a19 : W3.cell? ⟨bk, off + j * 21 + 19, none⟩ = some (.slice he.oa ne he.cap) := by rw [hW3]; exact a19
          replace a20 : W3.cell? ⟨bk, off + j * 21 + 20, none⟩ = some (.slice oar na car) := by rw [hW3]; exact a20
          clear hW3 nq
          go_wp2
          go_ret
          exact ⟨by rw [← HE.out]; rfl, HDW3.out⟩
        · have t2 : decide (xq ≤ q) = false := by simpa using hq
          have t3 : decide (q < xq) = true := by simp; omega
          rw [t3] at HRR
          clear hq t3
          cases b2 with
          | false =>
            have HE := Lib.hid (show false = R by rw [← HRR.out]; simp)
            go_upto_region 5 with (go_at_call 14; refine hbg.out.mono ?_; rintro e w1 ⟨rfl, h9⟩; replace h9 := h9.symm; subst h9)
            go_quiet (first | (go_at_call 15; refine Calls.quiet_of (hth.out _ (dnB HW.out _))))
            obtain ⟨W2, hW2⟩ : ∃ V, V = W.drewN nq := ⟨_, rfl⟩
            rw [← hW2]
            have HW2 := Lib.hid (show Below w.heap.size w W2 by rw [hW2]; exact dnB HW.out _)
            have HDW2 := Lib.hid (show ∃ m, W2 = w.drewN m by obtain ⟨m, hm⟩ := HDW.out; exact ⟨m + nq, by rw [hW2, hm, World.drewN_drewN]⟩)
            replace a1 : W2.cell? ⟨bk, off + j * 21 + 1, none⟩ = some (.int .i64 xq) := by rw [hW2]; exact a1
            replace a18 : W2.cell? ⟨bk, off + j * 21 + 18, none⟩ = some (.slice ht.oa nt ht.cap) := by rw [hW2]; exact a18
            replace a19 : W2.cell? ⟨bk, off + j * 21 + 19, none⟩ = some (.slice he.oa ne he.cap) := by rw [hW2]; exact a19
            replace a20 : W2.cell? ⟨bk, off + j * 21 + 20, none⟩ = some (.slice oar na car) := by rw [hW2]; exact a20
            clear hW2 nq
            go_upto_region 6 with fail
            go_quiet (first | (go_at_call 15; refine Calls.quiet_of (hel.out _ (dnB HW2.out _))))
            obtain ⟨W3, hW3⟩ : ∃ V, V = W2.drewN nq := ⟨_, rfl⟩
            rw [← hW3]
            have HW3 := Lib.hid (show Below w.heap.size w W3 by rw [hW3]; exact dnB HW2.out _)
            have HDW3 := Lib.hid (show ∃ m, W3 = w.drewN m by obtain ⟨m, hm⟩ := HDW2.out; exact ⟨m + nq, by rw [hW3, hm, World.drewN_drewN]⟩)
            replace a1 : W3.cell? ⟨bk, off + j * 21 + 1, none⟩ = some (.int .i64 xq) := by rw [hW3]; exact a1
            replace a18 : W3.cell? ⟨bk, off + j * 21 + 18, none⟩ = some (.slice ht.oa nt ht.cap) := by rw [hW3]; exact a18
            replace a19 : W3.cell? ⟨bk, off + j * 21 + 19, none⟩ = some (.slice he.oa ne he.cap) := by rw [hW3]; exact a19
            replace a20 : W3.cell? ⟨bk, off + j * 21 + 20, none⟩ = some (.slice oar na car) := by rw [hW3]; exact a20
            clear hW3 nq
            go_wp2
            go_ret
            exact ⟨by rw [← HE.out]; rfl, HDW3.out⟩
          | true =>
            cases b3 with
            | false =>
              have HE := Lib.hid (show false = R by rw [← HRR.out]; simp)
              go_upto_region 5 with (go_at_call 14; refine hbg.out.mono ?_; rintro e w1 ⟨rfl, h9⟩; replace h9 := h9.symm; subst h9)
              go_quiet (first | (go_at_call 15; refine Calls.quiet_of (hth.out _ (dnB HW.out _))))
              obtain ⟨W2, hW2⟩ : ∃ V, V = W.drewN nq := ⟨_, rfl⟩
              rw [← hW2]
              have HW2 := Lib.hid (show Below w.heap.size w W2 by rw [hW2]; exact dnB HW.out _)
              have HDW2 := Lib.hid (show ∃ m, W2 = w.drewN m by obtain ⟨m, hm⟩ := HDW.out; exact ⟨m + nq, by rw [hW2, hm, World.drewN_drewN]⟩)
              replace a1 : W2.cell? ⟨bk, off + j * 21 + 1, none⟩ = some (.int .i64 xq) := by rw [hW2]; exact a1
              replace a18 : W2.cell? ⟨bk, off + j * 21 + 18, none⟩ = some (.slice ht.oa nt ht.cap) := by rw [hW2]; exact a18
              replace a19 : W2.cell? ⟨bk, off + j * 21 + 19, none⟩ = some (.slice he.oa ne he.cap) := by rw [hW2]; exact a19
              replace a20 : W2.cell? ⟨bk, off + j * 21 + 20, none⟩ = some (.slice oar na car) := by rw [hW2]; exact a20
              clear hW2 nq
              go_upto_region 6 with fail
              go_quiet (first | (go_at_call 15; refine Calls.quiet_of (hel.out _ (dnB HW2.out _))))
              obtain ⟨W3, hW3⟩ : ∃ V, V = W2.drewN nq := ⟨_, rfl⟩
              rw [← hW3]
              have HW3 := Lib.hid (show Below w.heap.size w W3 by rw [hW3]; exact dnB HW2.out _)
              have HDW3 := Lib.hid (show ∃ m, W3 = w.drewN m by obtain ⟨m, hm⟩ := HDW2.out; exact ⟨m + nq, by rw [hW3, hm, World.drewN_drewN]⟩)
              replace a1 : W3.cell? ⟨bk, off + j * 21 + 1, none⟩ = some (.int .i64 xq) := by rw [hW3]; exact a1
              replace a18 : W3.cell? ⟨bk, off + j * 21 + 18, none⟩ = some (.slice ht.oa nt ht.cap) := by rw [hW3]; exact a18
              replace a19 : W3.cell? ⟨bk, off + j * 21 + 19, none⟩ = some (.slice he.oa ne he.cap) := by rw [hW3]; exact a19
              replace a20 : W3.cell? ⟨bk, off + j * 21 + 20, none⟩ = some (.slice oar na car) := by rw [hW3]; exact a20
              clear hW3 nq
              go_wp2
              go_ret
              exact ⟨by rw [← HE.out]; rfl, HDW3.out⟩
            | true =>
              go_upto_region 5 with (go_at_call 14; refine hbg.out.mono ?_; rintro e w1 ⟨rfl, h9⟩; replace h9 := h9.symm; subst h9)
              go_quiet (first | (go_at_call 15; refine Calls.quiet_of (hth.out _ (dnB HW.out _))))
              obtain ⟨W2, hW2⟩ : ∃ V, V = W.drewN nq := ⟨_, rfl⟩
              rw [← hW2]
              have HW2 := Lib.hid (show Below w.heap.size w W2 by rw [hW2]; exact dnB HW.out _)
              have HDW2 := Lib.hid (show ∃ m, W2 = w.drewN m by obtain ⟨m, hm⟩ := HDW.out; exact ⟨m + nq, by rw [hW2, hm, World.drewN_drewN]⟩)
              replace a1 : W2.cell? ⟨bk, off + j * 21 + 1, none⟩ = some (.int .i64 xq) := by rw [hW2]; exact a1
              replace a18 : W2.cell? ⟨bk, off + j * 21 + 18, none⟩ = some (.slice ht.oa nt ht.cap) := by rw [hW2]; exact a18
              replace a19 : W2.cell? ⟨bk, off + j * 21 + 19, none⟩ = some (.slice he.oa ne he.cap) := by rw [hW2]; exact a19
              replace a20 : W2.cell? ⟨bk, off + j * 21 + 20, none⟩ = some (.slice oar na car) := by rw [hW2]; exact a20
              clear hW2 nq
              go_upto_region 6 with fail
              go_quiet (first | (go_at_call 15; refine Calls.quiet_of (hel.out _ (dnB HW2.out _))))
              obtain ⟨W3, hW3⟩ : ∃ V, V = W2.drewN nq := ⟨_, rfl⟩
              rw [← hW3]
              have HW3 := Lib.hid (show Below w.heap.size w W3 by rw [hW3]; exact dnB HW2.out _)
              have HDW3 := Lib.hid (show ∃ m, W3 = w.drewN m by obtain ⟨m, hm⟩ := HDW2.out; exact ⟨m + nq, by rw [hW3, hm, World.drewN_drewN]⟩)
              replace a1 : W3.cell? ⟨bk, off + j * 21 + 1, none⟩ = some (.int .i64 xq) := by rw [hW3]; exact a1
              replace a18 : W3.cell? ⟨bk, off + j * 21 + 18, none⟩ = some (.slice ht.oa nt ht.cap) := by rw [hW3]; exact a18
              replace a19 : W3.cell? ⟨bk, off + j * 21 + 19, none⟩ = some (.slice he.oa ne he.cap) := by rw [hW3]; exact a19
              replace a20 : W3.cell? ⟨bk, off + j * 21 + 20, none⟩ = some (.slice oar na car) := by rw [hW3]; exact a20
              clear hW3 nq
              have HRR2 := Lib.hid (show (risArs L ar xq && risSts L (b.drop (j + 1)) xq) = R by rw [← HRR.out]; simp)
              obtain ⟨R2, hR2⟩ : ∃ c, risArs L ar xq = c := ⟨_, rfl⟩
              have hrr3 := HRR2.out
              rw [hR2] at hrr3
              have HRR3 := Lib.hid hrr3
              have HR2 := Lib.hid hR2
              have HWC3 := Lib.hid (show ∀ a, W3.cell? a = w.cell? a from fun a => by obtain ⟨m, hm⟩ := HDW3.out; rw [hm]; rfl)
              clear hrr3 hR2 HRR2
              go_wp2_with fail
              clear a1 a18 a19 a20
              go_loopw [11] (fun u11 wr2 => ∃ i : Nat, i ≤ na ∧ u11 = .int .i64 i ∧ Below w.heap.size w wr2 ∧ (∃ m, wr2 = w.drewN m) ∧ (∀ a, wr2.cell? a = w.cell? a) ∧ risArs L (ar.drop i) xq = R2) (fun u11 _ => na - (intOf u11).toNat)
              case atStart => exact ⟨0, Nat.zero_le _, rfl, HW3.out, HDW3.out, HWC3.out, HR2.out⟩
              case round =>
                obtain ⟨i, hi, rfl, hbl, hdm, hcc, hr2⟩ := hrel
                have HBL := Lib.hid hbl
                have HDM := Lib.hid hdm
                have HCC := Lib.hid hcc
                have HR3 := Lib.hid hr2
                clear hbl hdm hcc hr2
                have a20 := (HCC.out _).trans H20.out
                have han : na ≤ 9223372036854775807 := by
                  have h1 := QAR.out.1
                  have h2 := QAR.out.2.1
                  unfold maxLen at h2
                  have h3 := HNA.out
                  omega
                by_cases hin : i < na
                · have t5 : decide ((i : Int) < na) = true := by simp; omega
                  have hi0 : (0 : Int) ≤ i := by omega
                  have hi1 : (i : Int) < na := by omega
                  obtain ⟨_, _, qr3, qr4⟩ := QAR.out
                  obtain ⟨ba, offa, hao, _, hca⟩ := qr3 (by rw [HNA.out]; omega)
                  have h9 := HOA.out.symm.trans hao
                  have hil : i < ar.length := by rw [HNA.out]; exact hin
                  obtain ⟨y, hy⟩ : ∃ y, ar[i]? = some y := ⟨ar[i], List.getElem?_eq_getElem _⟩
                  have hd : ar.drop i = y :: ar.drop (i + 1) := by
                    rw [List.drop_eq_getElem_cons hil]
                    congr 1
                    rw [List.getElem?_eq_getElem hil] at hy
                    exact Option.some.inj hy
                  have hay := qr4 y (List.mem_of_getElem? hy)
                  obtain ⟨yv, yb, yh, yl⟩ := y
                  have c2 := (HCC.out _).trans (hca i _ hy 2 (.slice yh.oa yl.length yh.cap) rfl)
                  have hrow : Row w yh 21 yl stC (StH n' w) := by
                    cases n' with
                    | zero => unfold ArH at hay; exact hay.elim
                    | succ n2 => unfold ArH at hay; exact Row.mono hay fun _ _ hq => StH.le (by omega) hq
                  have hnl2 := HL.out.2
                  have hbd := Lib.hid (show Calls Tryz.prog 15 #[.slice (some ⟨g, 0, none⟩) nl cap, .slice yh.oa yl.length yh.cap, .int .i64 xq] wr fun e w' => e = .returned (.bool (risSts L yl xq)) ∧ ∃ m, w' = wr.drewN m from by
                    rw [← hnl2]
                    exact IH.out n' (Nat.lt_succ_self _) (HT.out.below HBL.out) HL.out.1 yh yl xq (hrow.below HBL.out fun _ _ hq => StH.below hq HBL.out))
                  have hr4 : (risSts L yl xq && risArs L (ar.drop (i + 1)) xq) = R2 := by rw [← HR3.out, hd, risArs, risAr]
                  have HR4 := Lib.hid hr4
                  obtain ⟨b4, hb4⟩ : ∃ c, risSts L yl xq = c := ⟨_, rfl⟩
                  have hbd2 := hbd.out
                  have hr5 := HR4.out
                  rw [hb4] at hbd2 hr5
                  replace hbd := Lib.hid hbd2
                  replace HR4 := Lib.hid hr5
                  subst h9
                  clear hca hy hd hay hrow hnl2 hr4 hb4 hbd2 hr5 hil hao qr3 qr4
                  cases b4 with
                  | false =>
                    have HE := Lib.hid (show false = R by rw [← HRR3.out, ← HR4.out]; simp)
                    go_wp2_with (go_at_call 15; refine hbd.out.mono ?_; rintro e w4 ⟨rfl, hm4⟩; have HM4 := Lib.hid hm4; clear hm4)
                    go_ret
                    exact ⟨by rw [← HE.out]; rfl, by obtain ⟨m1, h1⟩ := HDM.out; obtain ⟨m2, h2⟩ := HM4.out; exact ⟨m1 + m2, by rw [h2, h1, World.drewN_drewN]⟩⟩
                  | true =>
                    have HE := Lib.hid (show risArs L (ar.drop (i + 1)) xq = R2 by rw [← HR4.out]; simp)
                    go_wp2_with (go_at_call 15; refine hbd.out.mono ?_; rintro e w4 ⟨rfl, hm4⟩; have HM4 := Lib.hid hm4; clear hm4)
                    go_roundw
                    case rel => exact ⟨i + 1, by omega, by go_num, by obtain ⟨m2, h2⟩ := HM4.out; rw [h2]; exact dnB HBL.out _, by obtain ⟨m1, h1⟩ := HDM.out; obtain ⟨m2, h2⟩ := HM4.out; exact ⟨m1 + m2, by rw [h2, h1, World.drewN_drewN]⟩, fun a => by obtain ⟨m2, h2⟩ := HM4.out; rw [h2]; exact HCC.out a, HE.out⟩
                    case measure => simp [intOf]; omega
                · have t5 : decide ((i : Int) < na) = false := by simp; omega
                  have hr6 : R2 = true := by rw [← HR3.out, List.drop_eq_nil_of_le (by rw [HNA.out]; omega), risArs]
                  have HE := Lib.hid (show risSts L (b.drop (j + 1)) xq = R by rw [← HRR3.out, hr6]; simp)
                  clear hr6
                  go_wp2
                  go_roundw
                  case rel =>
                    obtain ⟨m1, h1⟩ := HDM.out
                    exact ⟨j + 1, m1, xq, by omega, by go_num, rfl, h1, HE.out⟩
                  case measure => simp [intOf]; omega
    · have t1 : decide ((j : Int) < nb) = false := by simp; omega
      have HE := Lib.hid (show true = R by rw [← HB.out, List.drop_eq_nil_of_le (by rw [HNB.out]; omega), risSts])
      go_wp2
      go_ret
      exact ⟨by rw [← HE.out]; rfl, HDW.out⟩
theorem rising_any (n : Nat) : RisC n := by
  induction n using Nat.strongRecOn with
  | _ n ih => exact rising_step n ih
end Go.Proofs.YthmiapolpohklaaGreatDoor

namespace Go.Proofs.YthmiapolpohklaaGreatDoor
open Go.RowKit

theorem lexT_sorted {p : Nat} {l : List UInt8} {ts : List Tok} (h : lexT p l = .good ts) : Sorted ts ∧ ∀ t ∈ ts, p ≤ t.pos ∧ t.pos < p + l.length := by
  rcases lexT_good h with ⟨rfl, _⟩ | ⟨t, us, rfl, h0, h1, h2, _, _, _, h3⟩
  · exact ⟨List.Pairwise.nil, fun t ht => by cases ht⟩
  · obtain ⟨i1, i2⟩ := lexT_sorted h3
    simp only [List.length_drop] at i2
    refine ⟨List.Pairwise.cons (fun u hu => ?_) i1, fun u hu => ?_⟩
    · have := i2 u hu; omega
    · rcases List.mem_cons.1 hu with rfl | hu
      · omega
      · have := i2 u hu; omega
termination_by l.length
decreasing_by simp only [List.length_drop]; omega
theorem sorted_end {s : ByteArray} {ts : List Tok} (h : lexL (bs s) = .good ts) : Sorted (ts ++ [endTok s]) := by
  obtain ⟨_, h2⟩ := lexL_good h
  obtain ⟨i1, i2⟩ := lexT_sorted h2
  refine List.pairwise_append.2 ⟨i1, List.pairwise_singleton _ _, fun t ht u hu => ?_⟩
  obtain rfl : u = endTok s := by simpa using hu
  have := i2 t ht
  rw [bs_size] at this
  show t.pos < s.size
  omega
theorem posSt_er (x : St5) : posSt (erSt x) = posSt x := by cases x; rw [erSt]; rfl
mutual
theorem ris_erSt (L : List Tok) : ∀ (x : St5) (p : Int), risSt L (erSt x) p = risSt L x p
  | .mk k pos nm ty pl rv op ht th he el ha ar, p => by rw [erSt, risSt, risSt, ris_erSts L th, ris_erSts L el, ris_erArs L ar]
theorem ris_erSts (L : List Tok) : ∀ (l : List St5) (p : Int), risSts L (erSts l) p = risSts L l p
  | [], p => by rw [erSts]
  | a :: l, p => by rw [erSts, risSts, risSts, ris_erSt L a, ris_erSts L l, posSt_er]
theorem ris_erAr (L : List Tok) : ∀ (x : Ar5) (p : Int), risAr L (erAr x) p = risAr L x p
  | .mk vr b h body, p => by rw [erAr, risAr, risAr, ris_erSts L body]
theorem ris_erArs (L : List Tok) : ∀ (l : List Ar5) (p : Int), risArs L (erArs l) p = risArs L l p
  | [], p => by rw [erArs]
  | a :: l, p => by rw [erArs, risArs, risArs, ris_erAr L a, ris_erArs L l]
end
/-- what holds of what was read, with its headers -/
theorem places_of {s : ByteArray} {ts : List Tok} (h : lexL (bs s) = .good ts) {x0 x : So5} {r : List Tok} (hp : parseR s = .ok x0 r) (hx : erSo x = x0) : PosSo (ts ++ [endTok s]) x := by
  unfold parseR at hp
  rw [h] at hp
  simp only at hp
  have hq := items_pos (sorted_end h) _ _ _ _ ⟨good_end ts s, [], rfl⟩ hp
  subst hx
  obtain ⟨hs, ss, he, es, hf, fs⟩ := x
  refine ⟨fun f hf => ?_, fun y hy => ?_, fun y hy => ?_⟩
  · have := hq.fns (erFn f) (List.mem_map_of_mem hf)
    refine ⟨this.1, ?_⟩
    have h2 := this.2
    unfold erFn at h2
    simp only at h2
    rw [← erSts_eq, ris_erSts] at h2
    exact h2
  · exact hq.structs (erSu y) (List.mem_map_of_mem hy)
  · exact hq.enums (erEn y) (List.mem_map_of_mem hy)
end Go.Proofs.YthmiapolpohklaaGreatDoor
