/-
  deep, of the statements. Conditions: the statements lie in the heap, and are nested no deeper than a thousand.
-/
import Derived.Test.YtgogdcpgfmndnaaGreatDoorTDeepP
import Derived.Test.YtgogdcpgfmndnaaGreatDoorTLarge
import Derived.IntWalk
namespace Go.Proofs.YtgogdcpgfmndnaaGreatDoor
open Go.RowKit

theorem deepL_drop {l : List St5} {j : Nat} {x : St5} (h : l[j]? = some x) : deepL (l.drop j) = max (deepS x) (deepL (l.drop (j + 1))) := by
  obtain ⟨hj, hx⟩ := List.getElem?_eq_some_iff.1 h
  rw [List.drop_eq_getElem_cons hj, deepL, hx]
theorem deepA_drop {l : List Ar5} {j : Nat} {x : Ar5} (h : l[j]? = some x) : deepA (l.drop j) = max (1 + deepR x) (deepA (l.drop (j + 1))) := by
  obtain ⟨hj, hx⟩ := List.getElem?_eq_some_iff.1 h
  rw [List.drop_eq_getElem_cons hj, deepA, hx]

set_option maxRecDepth 100000 in
set_option maxHeartbeats 16000000 in
theorem deep_step (n : Nat) (ih : ∀ m, m < n → ∀ (hd : Hd) (l : List St5) (w : World), Row w hd 21 l stC (StH m w) → deepL l ≤ 1000 → Calls Tryz.prog 17 #[.slice hd.oa l.length hd.cap] w fun e w' => e = .returned (.int .i64 (deepL l)) ∧ Below w.heap.size w w') (hd : Hd) (l : List St5) (w : World) (hL : Row w hd 21 l stC (StH n w)) (hbd : deepL l ≤ 1000) :
    Calls Tryz.prog 17 #[.slice hd.oa l.length hd.cap] w fun e w' => e = .returned (.int .i64 (deepL l)) ∧ Below w.heap.size w w' := by
  obtain ⟨oa, cap⟩ := hd
  obtain ⟨hl1, hl2, hl3, hl4⟩ := hL
  dsimp only at hl1 hl2 hl3 ⊢
  unfold maxLen at hl2
  replace hl3 := Lib.hid hl3
  replace hl4 := Lib.hid hl4
  replace ih := Lib.hid ih
  obtain ⟨D, hD⟩ : ∃ D, D = deepL l := ⟨_, rfl⟩
  rw [← hD] at hbd ⊢
  replace hD := Lib.hid hD
  go_enter Tryz.func17, Tryz.ntmps17
  go_wp2_with fail
  go_loopw [3, 4, 5] (fun s u _ wr => ∃ j m : Nat, j ≤ l.length ∧ s = .int .i64 m ∧ u = .int .i64 j ∧ m ≤ D ∧ 1 ≤ m ∧ max m (deepL (l.drop j)) = D ∧ Below w.heap.size w wr) (fun _ u _ _ => l.length - (intOf u).toNat)
  case atStart => exact ⟨0, 1, by omega, rfl, rfl, by rw [hD.out]; exact deepL_pos l, by omega, by rw [hD.out, List.drop_zero]; have := deepL_pos l; omega, Below.refl _ _⟩
  case round =>
    obtain ⟨j, m0, hj, rfl, rfl, hm, hm1, hmx, hbw⟩ := hrel
    obtain ⟨wo, rfl⟩ : ∃ wo : World, wo = wr := ⟨_, rfl⟩
    by_cases hjl : j < l.length
    · have t1 : decide ((j : Int) < l.length) = true := by simp; omega
      obtain ⟨ba, offa, rfl, hlt, hcell⟩ := hl3.out (by omega)
      obtain ⟨x, hxj⟩ : ∃ x, l[j]? = some x := ⟨_, List.getElem?_eq_getElem hjl⟩
      have hmem := hl4.out x (List.mem_of_getElem? hxj)
      have hdd := deepL_drop hxj
      obtain ⟨n1, rfl⟩ : ∃ m, n = m + 1 := by
        cases n with
        | zero => unfold StH at hmem; exact hmem.elim
        | succ m => exact ⟨m, rfl⟩
      obtain ⟨sk1, sp1, sn1, ⟨k1, nm1, h1, l1⟩, ⟨pn1, ph1, pp1⟩, ⟨rk1, rh1, ro1, ⟨pnr1, phr1, ppr1⟩, rn1, rr1⟩, ⟨ono1, oio1, ⟨pno1, pho1, ppo1⟩⟩, ht1, th1, he1, el1, ha1, ar1⟩ := x
      obtain ⟨-, -, -, -, -, A6, A7, A8⟩ := StH.below hmem hbw
      have hqq : ∀ w', Below wo.heap.size wo w' → (w'.cell? ⟨ba, offa + j * 21, none⟩ = some (.int .i64 sk1) ∧ w'.cell? ⟨ba, offa + j * 21 + 18, none⟩ = some (.slice ht1.oa th1.length ht1.cap) ∧ w'.cell? ⟨ba, offa + j * 21 + 19, none⟩ = some (.slice he1.oa el1.length he1.cap) ∧ w'.cell? ⟨ba, offa + j * 21 + 20, none⟩ = some (.slice ha1.oa ar1.length ha1.cap)) := fun w' h => by
        have hb2 := hbw.trans (h.mono hbw.size)
        exact ⟨(hb2.cell (p := ⟨ba, offa + j * 21, none⟩) hlt).trans (by simpa using hcell j _ hxj 0 _ rfl), (hb2.cell (p := ⟨ba, offa + j * 21 + 18, none⟩) hlt).trans (by simpa using hcell j _ hxj 18 _ rfl), (hb2.cell (p := ⟨ba, offa + j * 21 + 19, none⟩) hlt).trans (by simpa using hcell j _ hxj 19 _ rfl), (hb2.cell (p := ⟨ba, offa + j * 21 + 20, none⟩) hlt).trans (by simpa using hcell j _ hxj 20 _ rfl)⟩
      obtain ⟨y0, y18, y19, y20⟩ := hqq wo (Below.refl _ _)
      have HQ := Lib.hid hqq
      have HBW := Lib.hid hbw
      obtain ⟨aro, arc⟩ := ha1
      obtain ⟨p1, p2, p3, p4⟩ := A8
      dsimp only at p1 p2 p3 y20 HQ
      unfold maxLen at p2
      replace p3 := Lib.hid p3
      replace p4 := Lib.hid p4
      have h24a := fun (hb : deepL th1 ≤ 1000) W (hW : Below wo.heap.size wo W) => ih.out n1 (by omega) ht1 th1 W (Row.below A6 hW fun _ _ hx => StH.below hx hW) hb
      have h24b := fun (hb : deepL el1 ≤ 1000) W (hW : Below wo.heap.size wo W) => ih.out n1 (by omega) he1 el1 W (Row.below A7 hW fun _ _ hx => StH.below hx hW) hb
      clear hxj hcell hmem hqq A6 A7 hbw
      by_cases h23 : sk1 = 2 ∨ sk1 = 3
      · have hdS : deepS (.mk sk1 sp1 sn1 (.mk k1 nm1 h1 l1) ⟨pn1, ph1, pp1⟩ ⟨rk1, rh1, ro1, ⟨pnr1, phr1, ppr1⟩, rn1, rr1⟩ ⟨ono1, oio1, ⟨pno1, pho1, ppo1⟩⟩ ht1 th1 he1 el1 ⟨aro, arc⟩ ar1) = 1 + max (deepL th1) (deepL el1) := by rw [deepS, if_pos h23]
        rw [hdS] at hdd
        rw [hdd] at hmx
        clear hdS hdd
        have h24a' := Lib.hid (h24a (by omega))
        have h24b' := Lib.hid (h24b (by omega))
        clear h24a h24b
        obtain ⟨a, ha⟩ : ∃ a, a = deepL th1 := ⟨_, rfl⟩
        obtain ⟨b, hb⟩ : ∃ b, b = deepL el1 := ⟨_, rfl⟩
        rw [← ha] at h24a' hmx
        rw [← hb] at h24b' hmx
        clear ha hb
        have ha1 : a ≤ 1000 := by omega
        have hb1 : b ≤ 1000 := by omega
        have HMX := Lib.hid hmx
        have h4 : (sk1 == 4) = false := by rcases h23 with rfl | rfl <;> rfl
        have h5 : (sk1 == 2) = true ∨ ((sk1 == 2) = false ∧ (sk1 == 3) = true) := by rcases h23 with rfl | rfl <;> simp
        clear h23 hmx
        rcases h5 with h5 | ⟨h5, h6⟩
        all_goals
          go_upto_region 6 with fail
          go_region_held3 (fun w' => w'.cell? ⟨ba, offa + j * 21 + 18, none⟩ = some (.slice ht1.oa th1.length ht1.cap) ∧ w'.cell? ⟨ba, offa + j * 21 + 19, none⟩ = some (.slice he1.oa el1.length he1.cap)) (first | (refine ⟨?_, ?_⟩ <;> assumption) | go_keep)
            (first
              | (go_at_call_of 17 (Value.slice ht1.oa th1.length ht1.cap); refine (h24a'.out wo.drew (by exact (Below.refl _ _).drew)).mono ?_; rintro e w3 ⟨rfl, hb3'⟩; have hb3 := undrew2 hb3'; obtain ⟨x0, x18, x19, x20⟩ := HQ.out w3 hb3; have HK3 := Lib.hid hb3; clear hb3' hb3)
              | (go_at_call_of 17 (Value.slice he1.oa el1.length he1.cap); refine (h24b'.out w3 HK3.out).mono ?_; rintro e w4 ⟨rfl, hb4⟩; have HK4 := Lib.hid (HK3.out.trans (hb4.mono HK3.out.size)); obtain ⟨r0, r18, r19, r20⟩ := HQ.out w4 HK4.out; clear hb4))
          have hwr : max (m0 : Int) (IntKind.i64.wrap (1 + max (a : Int) b)) = ((max m0 (1 + max a b) : Nat) : Int) := by
            rw [IntWalk.i64_in _ (by omega)]
            omega
          have hwr2 : IntKind.i64.wrap (1 + max (a : Int) b) = 1 + max (a : Int) b := IntWalk.i64_in _ (by omega)
          simp only [hwr]
          obtain ⟨M, hM⟩ : ∃ M, M = max m0 (1 + max a b) := ⟨_, rfl⟩
          rw [← hM]
          have hM1 : M ≤ D := by have := HMX.out; omega
          have hM2 : 1 ≤ M := by omega
          have hM3 := Lib.hid (show max M (deepL (l.drop (j + 1))) = D by have := HMX.out; omega)
          have HB4 := Lib.hid (HBW.out.trans (HK4.out.mono HBW.out.size))
          obtain ⟨r0, r18, r19, r20⟩ := HQ.out w4 HK4.out
          clear hwr hwr2 hM y0 y18 y19 y20 x0 x18 x19 x20 r18 r19 HMX
          go_wp2_with fail
          go_loopw [3, 5] (fun s u wr2 => s = .int .i64 M ∧ u = .int .i64 0 ∧ wr2 = w4) (fun _ _ _ => 0)
          case atStart => exact ⟨rfl, rfl, rfl⟩
          case round =>
            obtain ⟨rfl, rfl, rfl⟩ := hrel
            by_cases har : 0 < ar1.length
            all_goals
              go_wp2
              go_roundw
              case rel => exact ⟨j + 1, M, by omega, rfl, by go_num, hM1, hM2, hM3.out, HB4.out⟩
              case measure => simp [intOf]; omega
      · have hn2 : (sk1 == 2) = false := by simp only [beq_eq_false_iff_ne, ne_eq]; omega
        have hn3 : (sk1 == 3) = false := by simp only [beq_eq_false_iff_ne, ne_eq]; omega
        by_cases h4 : sk1 = 4
        · subst h4
          have hdS : deepS (.mk 4 sp1 sn1 (.mk k1 nm1 h1 l1) ⟨pn1, ph1, pp1⟩ ⟨rk1, rh1, ro1, ⟨pnr1, phr1, ppr1⟩, rn1, rr1⟩ ⟨ono1, oio1, ⟨pno1, pho1, ppo1⟩⟩ ht1 th1 he1 el1 ⟨aro, arc⟩ ar1) = deepA ar1 := by rw [deepS, if_neg (by decide), if_pos rfl]
          rw [hdS] at hdd
          rw [hdd] at hmx
          have hap := deepA_pos ar1
          have HMX := Lib.hid hmx
          have hA1 : deepA ar1 ≤ D := by omega
          clear hdS hdd hmx h23 h24a h24b y18 y19
          go_wp2_with fail
          go_loopw [3, 5] (fun s u wr2 => ∃ i m1 : Nat, i ≤ ar1.length ∧ s = .int .i64 m1 ∧ u = .int .i64 i ∧ m1 ≤ D ∧ 1 ≤ m1 ∧ max m1 (deepA (ar1.drop i)) = max m0 (deepA ar1) ∧ Below wo.heap.size wo wr2) (fun _ u _ => ar1.length - (intOf u).toNat)
          case atStart => exact ⟨0, m0, by omega, rfl, rfl, hm, hm1, by rw [List.drop_zero], Below.refl _ _⟩
          case round =>
            clear y0 y20
            obtain ⟨i, m1, hi, rfl, rfl, hm2, hm3, hmx2, hbw2⟩ := hrel
            obtain ⟨y0, y18, y19, y20⟩ := HQ.out wr hbw2
            clear y18 y19
            by_cases hil : i < ar1.length
            · have t2 : decide ((i : Int) < ar1.length) = true := by simp; omega
              obtain ⟨bo, oo, rfl, holt, hocell⟩ := p3.out (by omega)
              obtain ⟨ay, hay⟩ : ∃ x, ar1[i]? = some x := ⟨_, List.getElem?_eq_getElem hil⟩
              have hda := deepA_drop hay
              have ham := p4.out ay (List.mem_of_getElem? hay)
              obtain ⟨av9, ab9, ah9, ay9⟩ := ay
              rw [deepR] at hda
              rw [hda] at hmx2
              obtain ⟨q, rfl⟩ : ∃ q, n1 = q + 1 := by
                cases n1 with
                | zero => unfold ArH at ham; exact ham.elim
                | succ q => exact ⟨q, rfl⟩
              have h24 := ih.out q (by omega) ah9 ay9 wr (Row.below ham hbw2 fun _ _ hx => StH.below hx hbw2) (by omega)
              obtain ⟨a, ha⟩ : ∃ a, a = deepL ay9 := ⟨_, rfl⟩
              rw [← ha] at h24 hmx2
              have ha1 : a ≤ 1000 := by omega
              replace h24 := Lib.hid h24
              have g9 : wr.cell? ⟨bo, oo + i * 3 + 2, none⟩ = some (.slice ah9.oa ay9.length ah9.cap) := (hbw2.cell (p := ⟨bo, oo + i * 3 + 2, none⟩) holt).trans (hocell i _ hay 2 _ rfl)
              have HMX2 := Lib.hid hmx2
              have HB2 := Lib.hid hbw2
              have hM1 : max m1 (1 + a) ≤ D := by omega
              clear hay hocell ham hbw2 hmx2 hda ha
              go_wp2_with (go_at_call 17; refine h24.out.mono ?_; rintro e w6 ⟨rfl, hb6⟩; have HB6 := Lib.hid (HB2.out.trans (hb6.mono HB2.out.size)); clear hb6)
              go_roundw
              case rel => exact ⟨i + 1, max m1 (1 + a), by omega, by go_num, by go_num, hM1, by omega, by have := HMX2.out; omega, HB6.out⟩
              case measure => simp [intOf]; omega
            · have t2 : decide ((i : Int) < ar1.length) = false := by simp; omega
              obtain rfl : i = ar1.length := by omega
              have hM3 := Lib.hid (show max m1 (deepL (l.drop (j + 1))) = D by have := HMX.out; rw [List.drop_length, deepA] at hmx2; omega)
              have HB4 := Lib.hid (HBW.out.trans (hbw2.mono HBW.out.size))
              clear hbw2 hmx2
              go_wp2
              go_roundw
              case rel => exact ⟨j + 1, m1, by omega, rfl, by go_num, hm2, hm3, hM3.out, HB4.out⟩
              case measure => simp [intOf]; omega
        · have hn4 : (sk1 == 4) = false := by simpa using h4
          have hdS : deepS (.mk sk1 sp1 sn1 (.mk k1 nm1 h1 l1) ⟨pn1, ph1, pp1⟩ ⟨rk1, rh1, ro1, ⟨pnr1, phr1, ppr1⟩, rn1, rr1⟩ ⟨ono1, oio1, ⟨pno1, pho1, ppo1⟩⟩ ht1 th1 he1 el1 ⟨aro, arc⟩ ar1) = 1 := by rw [deepS, if_neg h23, if_neg h4]
          rw [hdS] at hdd
          rw [hdd] at hmx
          have hM3 := Lib.hid (show max m0 (deepL (l.drop (j + 1))) = D by omega)
          clear hdS hdd hmx h23 h24a h24b y18 y19 h4
          go_wp2_with fail
          go_loopw [3, 5] (fun s u wr2 => s = .int .i64 m0 ∧ u = .int .i64 0 ∧ wr2 = wo) (fun _ _ _ => 0)
          case atStart => exact ⟨rfl, rfl, rfl⟩
          case round =>
            obtain ⟨rfl, rfl, rfl⟩ := hrel
            by_cases har : 0 < ar1.length
            all_goals
              go_wp2
              go_roundw
              case rel => exact ⟨j + 1, m0, by omega, rfl, by go_num, hm, hm1, hM3.out, HBW.out⟩
              case measure => simp [intOf]; omega
    · have t1 : decide ((j : Int) < l.length) = false := by simp; omega
      obtain rfl : j = l.length := by omega
      have HBW := Lib.hid hbw
      have hDm := Lib.hid (show (m0 : Int) = D by rw [List.drop_length, deepL] at hmx; omega)
      clear hbw hmx
      go_wp2
      go_ret
      exact ⟨by rw [← hDm.out]; first | done | rfl, HBW.out⟩
theorem deep_any : ∀ (n : Nat) (hd : Hd) (l : List St5) (w : World), Row w hd 21 l stC (StH n w) → deepL l ≤ 1000 → Calls Tryz.prog 17 #[.slice hd.oa l.length hd.cap] w fun e w' => e = .returned (.int .i64 (deepL l)) ∧ Below w.heap.size w w' := by
  intro n
  induction n using Nat.strongRecOn with
  | _ n ih => exact deep_step n ih

end Go.Proofs.YtgogdcpgfmndnaaGreatDoor
