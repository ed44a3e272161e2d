/-
  Valid and Same of tree. Conditions: the sources lie in the heap; the package variables lie as the program's text lays them.
-/
import Derived.Test.YtgogdcpgfmndnaaGreatDoorTSt0
import Derived.Test.YtgogdcpgfmndnaaGreatDoorTSt1
import Derived.Test.YtgogdcpgfmndnaaGreatDoorTSt2
import Derived.Test.YtgogdcpgfmndnaaGreatDoorTSt3
import Derived.Test.YtgogdcpgfmndnaaGreatDoorTSt4
import Derived.Test.YtgogdcpgfmndnaaGreatDoorTSt5
import Derived.Test.YtgogdcpgfmndnaaGreatDoorTSt6
import Derived.Test.YtgogdcpgfmndnaaGreatDoorTSt7
import Derived.Test.YtgogdcpgfmndnaaGreatDoorTSt8
import Derived.Test.YtgogdcpgfmndnaaGreatDoorTAlls
import Derived.Test.YtgogdcpgfmndnaaGreatDoorTEqs
namespace Go.Proofs.YtgogdcpgfmndnaaGreatDoor
open Go.RowKit

set_option maxRecDepth 100000 in
set_option maxHeartbeats 8000000 in
theorem validStmt_X (d : Nat) (sk1 sp1 : Int) (sn1 : ByteArray) (k1 : Int) (nm1 : ByteArray) (h1 : Hd) (l1 : List Ty5) (pn1 : ByteArray) (ph1 : Hd) (pp1 : List ByteArray) (rk1 : Int) (rh1 : Hd) (ro1 : List Op5) (pnr1 : ByteArray) (phr1 : Hd) (ppr1 : List ByteArray) (rn1 rr1 : ByteArray) (ono1 : Bool) (oio1 : Int) (pno1 : ByteArray) (pho1 : Hd) (ppo1 : List ByteArray) (ht1 : Hd) (th1 : List St5) (he1 : Hd) (el1 : List St5) (ha1 : Hd) (ar1 : List Ar5) (w : World) (q0 : ¬ sk1 = 0) (q1 : ¬ sk1 = 1) (q2 : ¬ sk1 = 2) (q3 : ¬ sk1 = 3) (q4 : ¬ sk1 = 4) (q5 : ¬ sk1 = 5) (q6 : ¬ sk1 = 6) (q7 : ¬ sk1 = 7) (q8 : ¬ sk1 = 8) :
    Calls Tryz.prog 104 #[stV (.mk sk1 sp1 sn1 (.mk k1 nm1 h1 l1) ⟨pn1, ph1, pp1⟩ ⟨rk1, rh1, ro1, ⟨pnr1, phr1, ppr1⟩, rn1, rr1⟩ ⟨ono1, oio1, ⟨pno1, pho1, ppo1⟩⟩ ht1 th1 he1 el1 ha1 ar1), .int .i64 d] w fun e w' => e = .returned (.bool (stOk d (.mk sk1 sp1 sn1 (.mk k1 nm1 h1 l1) ⟨pn1, ph1, pp1⟩ ⟨rk1, rh1, ro1, ⟨pnr1, phr1, ppr1⟩, rn1, rr1⟩ ⟨ono1, oio1, ⟨pno1, pho1, ppo1⟩⟩ ht1 th1 he1 el1 ha1 ar1))) ∧ Below w.heap.size w w' := by
  obtain ⟨R, hR⟩ : ∃ R, R = stOk d (.mk sk1 sp1 sn1 (.mk k1 nm1 h1 l1) ⟨pn1, ph1, pp1⟩ ⟨rk1, rh1, ro1, ⟨pnr1, phr1, ppr1⟩, rn1, rr1⟩ ⟨ono1, oio1, ⟨pno1, pho1, ppo1⟩⟩ ht1 th1 he1 el1 ha1 ar1) := ⟨_, rfl⟩
  rw [← hR]
  replace hR : R = false := by rw [hR, stOk, if_neg q0, if_neg q1, if_neg q2, if_neg q3, if_neg q4, if_neg (by simp [q5, q6, q7]), if_neg q8]
  have t0 : (sk1 == 0) = false := by simpa using q0
  have t1 : (sk1 == 1) = false := by simpa using q1
  have t2 : (sk1 == 2) = false := by simpa using q2
  have t3 : (sk1 == 3) = false := by simpa using q3
  have t4 : (sk1 == 4) = false := by simpa using q4
  have t5 : (sk1 == 5) = false := by simpa using q5
  have t6 : (sk1 == 6) = false := by simpa using q6
  have t7 : (sk1 == 7) = false := by simpa using q7
  have t8 : (sk1 == 8) = false := by simpa using q8
  clear q0 q1 q2 q3 q4 q5 q6 q7 q8
  have HR := Lib.hid hR
  clear hR
  simp only [stV]
  obtain ⟨c1, hc1'⟩ : ∃ c, c = stC (.mk sk1 sp1 sn1 (.mk k1 nm1 h1 l1) ⟨pn1, ph1, pp1⟩ ⟨rk1, rh1, ro1, ⟨pnr1, phr1, ppr1⟩, rn1, rr1⟩ ⟨ono1, oio1, ⟨pno1, pho1, ppo1⟩⟩ ht1 th1 he1 el1 ha1 ar1) := ⟨_, rfl⟩
  have hcl : c1.length = 21 := by rw [hc1']; exact stC_len _
  have hci : (Tryz.prog.info? 52).map (·.size) = some c1.length := by rw [hcl]; exact info52
  have hco : ∀ v ∈ c1, v.oneCell' = true := by rw [hc1']; exact stC_one _
  rw [← hc1']
  have e0 : c1[0]? = some (.int .i64 sk1) := by rw [hc1']; rfl
  clear hc1'
  obtain ⟨W0, hW0⟩ : ∃ W, W = ((w.alloc (.cells c1.toArray 52)).alloc (.cells #[.int .i64 d] 3)) := ⟨_, rfl⟩
  have HW0 : Below w.heap.size w W0 := by rw [hW0]; exact ((Below.refl _ _).alloc (Nat.le_refl _) _).alloc (by simp) _
  have r0 : W0.rangeAt w.heap.size 0 c1 := by rw [hW0]; exact rangeAt_below (rangeAt_box w c1 52) (alloc_below _ _)
  have hz0 := Lib.hid (show ∀ w', Below W0.heap.size W0 w' → w'.cell? ⟨w.heap.size, 0, none⟩ = some (.int .i64 sk1) from fun w' hb => rangeAt_below r0 hb 0 _ e0)
  have hr0 := Lib.hid (show ((w.alloc (.cells c1.toArray 52)).alloc (.cells #[.int .i64 d] 3)).rangeAt w.heap.size 0 c1 by rw [← hW0]; exact r0)
  clear r0 e0
  replace HW0 := Lib.hid HW0
  replace hco := Lib.hid hco
  replace hci := Lib.hid hci
  replace hcl := Lib.hid hcl
  go_enter Tryz.func104, Tryz.ntmps104
  go_wp2_with (first
    | (refine wpList_load_mid rfl 52 (.tmp 2) rfl w.heap.size 0 rfl c1 _ hr0.out Tryz.underlying52 rfl hci.out ?_)
    | (refine wpList_store_new2 rfl 52 (.tmp 5) (.tmp 7) rfl _ _ _ (w.heap.size + 2) (by simp) rfl c1 rfl (by rw [hcl.out]; rfl) hci.out hco.out ?_; rw [← hW0]; intro W1 HK1 _ hs1; have HB1 := HW0.out.trans (HK1.mono HW0.out.size); have z0_0 := hz0.out W1 HK1; replace HK1 := Lib.hid HK1; replace HB1 := Lib.hid HB1; clear hs1))
  go_ret
  exact ⟨by rw [HR.out]; first | done | rfl, HB1.out⟩

theorem validStmt_step (n d : Nat) (hd : d ≤ 60) (x : St5) (w : World) (hA : StH (n + 1) w x) (hV : Vz w) (ihR : ∀ (d : Nat), d ≤ 61 → ∀ (h : Hd) (l : List St5) (w : World), Vz w → Row w h 21 l stC (StH n w) → Calls Tryz.prog 78 #[.slice h.oa l.length h.cap, .int .i64 d] w fun e w' => e = .returned (.bool (rowOk d l)) ∧ Below w.heap.size w w') (ihA : ∀ (d : Nat), d ≤ 61 → ∀ (x : Ar5) (w : World), Vz w → ArH n w x → Calls Tryz.prog 128 #[arV x, .int .i64 d] w fun e w' => e = .returned (.bool (arOk d x)) ∧ Below w.heap.size w w') :
    Calls Tryz.prog 104 #[stV x, .int .i64 d] w fun e w' => e = .returned (.bool (stOk d x)) ∧ Below w.heap.size w w' := by
  obtain ⟨k, pos, nm, ⟨tk, tn, th_, tl⟩, ⟨pn, ph, pp⟩, ⟨rk, rh, ro, ⟨rpn, rph, rpp⟩, rn, rr⟩, ⟨on, oi, ⟨opn, oph, opp⟩⟩, ht, th, he, el, ha, ar⟩ := x
  by_cases q0 : k = 0
  · subst q0; exact validStmt_0 n d hd pos nm tk tn th_ tl pn ph pp rk rh ro rpn rph rpp rn rr on oi opn oph opp ht th he el ha ar w hA hV ihR ihA
  by_cases q1 : k = 1
  · subst q1; exact validStmt_1 n d hd pos nm tk tn th_ tl pn ph pp rk rh ro rpn rph rpp rn rr on oi opn oph opp ht th he el ha ar w hA hV ihR ihA
  by_cases q2 : k = 2
  · subst q2; exact validStmt_2 n d hd pos nm tk tn th_ tl pn ph pp rk rh ro rpn rph rpp rn rr on oi opn oph opp ht th he el ha ar w hA hV ihR ihA
  by_cases q3 : k = 3
  · subst q3; exact validStmt_3 n d hd pos nm tk tn th_ tl pn ph pp rk rh ro rpn rph rpp rn rr on oi opn oph opp ht th he el ha ar w hA hV ihR ihA
  by_cases q4 : k = 4
  · subst q4; exact validStmt_4 n d hd pos nm tk tn th_ tl pn ph pp rk rh ro rpn rph rpp rn rr on oi opn oph opp ht th he el ha ar w hA hV ihR ihA
  by_cases q5 : k = 5
  · subst q5; exact validStmt_5 n d hd pos nm tk tn th_ tl pn ph pp rk rh ro rpn rph rpp rn rr on oi opn oph opp ht th he el ha ar w hA hV ihR ihA
  by_cases q6 : k = 6
  · subst q6; exact validStmt_6 n d hd pos nm tk tn th_ tl pn ph pp rk rh ro rpn rph rpp rn rr on oi opn oph opp ht th he el ha ar w hA hV ihR ihA
  by_cases q7 : k = 7
  · subst q7; exact validStmt_7 n d hd pos nm tk tn th_ tl pn ph pp rk rh ro rpn rph rpp rn rr on oi opn oph opp ht th he el ha ar w hA hV ihR ihA
  by_cases q8 : k = 8
  · subst q8; exact validStmt_8 n d hd pos nm tk tn th_ tl pn ph pp rk rh ro rpn rph rpp rn rr on oi opn oph opp ht th he el ha ar w hA hV ihR ihA
  exact validStmt_X d k pos nm tk tn th_ tl pn ph pp rk rh ro rpn rph rpp rn rr on oi opn oph opp ht th he el ha ar w q0 q1 q2 q3 q4 q5 q6 q7 q8

set_option maxHeartbeats 2000000 in
theorem validRow_step (n : Nat) (ihS : ∀ (d : Nat), d ≤ 60 → ∀ (x : St5) (w : World), Vz w → StH n w x → Calls Tryz.prog 104 #[stV x, .int .i64 d] w fun e w' => e = .returned (.bool (stOk d x)) ∧ Below w.heap.size w w') (d : Nat) (hd : d ≤ 61) (h : Hd) (l : List St5) (w : World) (hV : Vz w) (hL : Row w h 21 l stC (StH n w)) :
    Calls Tryz.prog 78 #[.slice h.oa l.length h.cap, .int .i64 d] w fun e w' => e = .returned (.bool (rowOk d l)) ∧ Below w.heap.size w w' := by
  have hb := alloc_below w (.cells #[.int .i64 d] 3)
  have hcd : (w.alloc (.cells #[.int .i64 d] 3)).cell? ⟨w.heap.size, 0, none⟩ = some (.int .i64 d) := alloc_cell w _ 3 0 _ rfl
  obtain ⟨R, hR⟩ : ∃ R, R = rowOk d l := ⟨_, rfl⟩
  rw [← hR]
  by_cases h60 : d ≤ 60
  · have t0 : decide ((d : Int) ≤ 60) = true := by simp; omega
    have hR2 : R = l.all (stOk d) := by rw [hR, rowOk, decide_eq_true h60, Bool.true_and]
    have hc : Calls Tryz.prog 102 #[.slice h.oa l.length h.cap, .func (.func 103) #[] #[.pointer (some ⟨w.heap.size, 0, none⟩)]] (w.alloc (.cells #[.int .i64 d] 3)) fun e w' => e = .returned (.bool R) ∧ Below (w.alloc (.cells #[.int .i64 d] 3)).heap.size (w.alloc (.cells #[.int .i64 d] 3)) w' := by
      rw [hR2]
      exact allStC_any 103 (.pointer (some ⟨w.heap.size, 0, none⟩)) enters103 (stOk d) (StH n) (fun _ _ _ h hb => StH.below h hb) _ (fun x W2 hx hW2 => clos103 d x _ W2 ((hW2.cell (p := ⟨w.heap.size, 0, none⟩) (World.block_lt_of_cell? _ _ hcd)).trans hcd) (fun W3 hW3 => ihS d h60 x W3 (((hV.b hb).b hW2).b hW3) (StH.below hx hW3))) h l (Row.below hL hb fun _ _ hx => StH.below hx hb)
    replace hc := Lib.hid hc
    have HB := Lib.hid hb
    clear hR hR2 hb h60 hcd
    go_enter Tryz.func78, Tryz.ntmps78
    go_wp2_with (go_at_call 102; refine hc.out.mono ?_; rintro e w1 ⟨rfl, hb1⟩; have B1 := Lib.hid (HB.out.trans (hb1.mono HB.out.size)); clear hb1)
    go_ret
    exact ⟨by first | done | rfl, B1.out⟩
  · have t0 : decide ((d : Int) ≤ 60) = false := by rw [decide_eq_false_iff_not]; omega
    have t1 : ¬ (d : Int) ≤ 60 := by omega
    have HR := Lib.hid (show R = false by rw [hR, rowOk, decide_eq_false h60, Bool.false_and])
    have HB := Lib.hid hb
    clear hR hb h60 hcd
    go_enter Tryz.func78, Tryz.ntmps78
    go_wp2_with fail
    go_ret
    exact ⟨by rw [HR.out]; first | done | rfl, HB.out⟩

set_option maxRecDepth 100000 in
set_option maxHeartbeats 4000000 in
theorem arm_no (n : Nat) (ihS : ∀ (d : Nat), d ≤ 60 → ∀ (x : St5) (w : World), Vz w → StH n w x → Calls Tryz.prog 104 #[stV x, .int .i64 d] w fun e w' => e = .returned (.bool (stOk d x)) ∧ Below w.heap.size w w') (d : Nat) (hd : d ≤ 61) (av1 : ByteArray) (ah1 : Hd) (ay1 : List St5) (w : World) (hA : ArH (n + 1) w (.mk av1 ⟨#[]⟩ ah1 ay1)) (hV : Vz w) : Calls Tryz.prog 128 #[arV (.mk av1 ⟨#[]⟩ ah1 ay1), .int .i64 d] w fun e w' => e = .returned (.bool (arOk d (.mk av1 ⟨#[]⟩ ah1 ay1))) ∧ Below w.heap.size w w' := by
  have hRR : arOk d (.mk av1 ⟨#[]⟩ ah1 ay1) = (greatN av1 && rowOk d ay1) := by rw [arOk, rowOk_eq]; simp [emptyN]
  obtain ⟨R, hR⟩ : ∃ R, R = (arOk d (.mk av1 ⟨#[]⟩ ah1 ay1)) := ⟨_, rfl⟩
  rw [← hR]
  replace hR : R = ((greatN av1) && (rowOk d ay1)) := hR.trans (by exact hRR)
  have hc0 : ∀ W, Below w.heap.size w W → Calls Tryz.prog 72 #[.string av1] W fun e w' => e = .returned (.bool (greatN av1)) ∧ Below W.heap.size W w' := fun W hW => greatN_b av1 W (hV.b hW)
  obtain ⟨b0, hb0⟩ : ∃ b, b = (greatN av1) := ⟨_, rfl⟩
  rw [← hb0] at hR hc0
  clear hb0
  replace hc0 := Lib.hid hc0
  have hc1 : ∀ W, Below w.heap.size w W → Calls Tryz.prog 78 #[.slice ah1.oa ay1.length ah1.cap, .int .i64 d] W fun e w' => e = .returned (.bool (rowOk d ay1)) ∧ Below W.heap.size W w' := fun W hW => validRow_step n ihS d hd ah1 ay1 W (hV.b hW) (Row.below hA hW fun _ _ hx => StH.below hx hW)
  obtain ⟨b1, hb1⟩ : ∃ b, b = (rowOk d ay1) := ⟨_, rfl⟩
  rw [← hb1] at hR hc1
  clear hb1
  replace hc1 := Lib.hid hc1
  clear hRR
  simp only [arV, arC]
  obtain ⟨W0, hW0⟩ : ∃ W, W = (w.alloc (.cells #[.string av1, .string ⟨#[]⟩, .slice ah1.oa ay1.length ah1.cap] 107)) := ⟨_, rfl⟩
  have HW0 : Below w.heap.size w W0 := by rw [hW0]; exact (Below.refl _ _).alloc (Nat.le_refl _) _
  replace HW0 := Lib.hid HW0
  have r0 : W0.rangeAt (w.heap.size) 0 [.string av1, .string ⟨#[]⟩, .slice ah1.oa ay1.length ah1.cap] := by
    have := rangeAt_box w [.string av1, .string ⟨#[]⟩, .slice ah1.oa ay1.length ah1.cap] 107
    rw [hW0]
    simpa using this
  have hz0 := Lib.hid (show ∀ w', Below W0.heap.size W0 w' → (w'.cell? ⟨w.heap.size, 1, none⟩ = some (.string ⟨#[]⟩) ∧ w'.cell? ⟨w.heap.size, 2, none⟩ = some (.slice ah1.oa ay1.length ah1.cap)) from fun w' hb => ⟨rangeAt_below r0 hb 1 _ rfl, rangeAt_below r0 hb 2 _ rfl⟩)
  clear r0
  cases b0 with
  | false =>
    have HR := Lib.hid (show R = false by rw [hR]; first | done | rfl)
    clear hR
    go_enter Tryz.func128, Tryz.ntmps128
    go_wp2_with fail
    rw [← hW0]
    clear hW0
    refine (hc0.out _ HW0.out).mono ?_
    rintro e w1 ⟨rfl, hb1'⟩
    have B1 := Lib.hid (HW0.out.trans (hb1'.mono HW0.out.size))
    have K1 := Lib.hid hb1'
    clear hb1'
    obtain ⟨z0_0, z0_1⟩ := hz0.out _ K1.out
    go_wp2_with fail
    go_ret
    exact ⟨by rw [HR.out]; first | done | rfl, B1.out⟩
  | true =>
    cases b1 with
    | false =>
      have HR := Lib.hid (show R = false by rw [hR]; first | done | rfl)
      clear hR
      go_enter Tryz.func128, Tryz.ntmps128
      go_wp2_with fail
      rw [← hW0]
      clear hW0
      refine (hc0.out _ HW0.out).mono ?_
      rintro e w1 ⟨rfl, hb1'⟩
      have B1 := Lib.hid (HW0.out.trans (hb1'.mono HW0.out.size))
      have K1 := Lib.hid hb1'
      clear hb1'
      obtain ⟨z0_0, z0_1⟩ := hz0.out _ K1.out
      go_wp2_with fail
      refine (hc1.out _ B1.out).mono ?_
      rintro e w2 ⟨rfl, hb2'⟩
      have B2 := Lib.hid (B1.out.trans (hb2'.mono B1.out.size))
      have K2 := Lib.hid (K1.out.trans (hb2'.mono K1.out.size))
      clear hb2'
      go_wp2_with fail
      go_ret
      exact ⟨by rw [HR.out]; first | done | rfl, B2.out⟩
    | true =>
      have HR := Lib.hid (show R = true by rw [hR]; first | done | rfl)
      clear hR
      go_enter Tryz.func128, Tryz.ntmps128
      go_wp2_with fail
      rw [← hW0]
      clear hW0
      refine (hc0.out _ HW0.out).mono ?_
      rintro e w1 ⟨rfl, hb1'⟩
      have B1 := Lib.hid (HW0.out.trans (hb1'.mono HW0.out.size))
      have K1 := Lib.hid hb1'
      clear hb1'
      obtain ⟨z0_0, z0_1⟩ := hz0.out _ K1.out
      go_wp2_with fail
      refine (hc1.out _ B1.out).mono ?_
      rintro e w2 ⟨rfl, hb2'⟩
      have B2 := Lib.hid (B1.out.trans (hb2'.mono B1.out.size))
      have K2 := Lib.hid (K1.out.trans (hb2'.mono K1.out.size))
      clear hb2'
      go_wp2_with fail
      go_ret
      exact ⟨by rw [HR.out]; first | done | rfl, B2.out⟩

set_option maxRecDepth 100000 in
set_option maxHeartbeats 4000000 in
theorem arm_yes (n : Nat) (ihS : ∀ (d : Nat), d ≤ 60 → ∀ (x : St5) (w : World), Vz w → StH n w x → Calls Tryz.prog 104 #[stV x, .int .i64 d] w fun e w' => e = .returned (.bool (stOk d x)) ∧ Below w.heap.size w w') (d : Nat) (hd : d ≤ 61) (av1 ab1 : ByteArray) (ah1 : Hd) (ay1 : List St5) (w : World) (hA : ArH (n + 1) w (.mk av1 ab1 ah1 ay1)) (hV : Vz w) (hem : emptyN ab1 = false) : Calls Tryz.prog 128 #[arV (.mk av1 ab1 ah1 ay1), .int .i64 d] w fun e w' => e = .returned (.bool (arOk d (.mk av1 ab1 ah1 ay1))) ∧ Below w.heap.size w w' := by
  have hRR : arOk d (.mk av1 ab1 ah1 ay1) = (greatN av1 && smallN ab1 && rowOk d ay1) := by rw [arOk, rowOk_eq, hem, Bool.false_or]
  obtain ⟨em1, em2⟩ := empty_no hem
  clear hem
  obtain ⟨R, hR⟩ : ∃ R, R = (arOk d (.mk av1 ab1 ah1 ay1)) := ⟨_, rfl⟩
  rw [← hR]
  replace hR : R = ((greatN av1) && (smallN ab1) && (rowOk d ay1)) := hR.trans (by exact hRR)
  have hc0 : ∀ W, Below w.heap.size w W → Calls Tryz.prog 72 #[.string av1] W fun e w' => e = .returned (.bool (greatN av1)) ∧ Below W.heap.size W w' := fun W hW => greatN_b av1 W (hV.b hW)
  obtain ⟨b0, hb0⟩ : ∃ b, b = (greatN av1) := ⟨_, rfl⟩
  rw [← hb0] at hR hc0
  clear hb0
  replace hc0 := Lib.hid hc0
  have hc1 : ∀ W, Below w.heap.size w W → Calls Tryz.prog 77 #[.string ab1] W fun e w' => e = .returned (.bool (smallN ab1)) ∧ Below W.heap.size W w' := fun W hW => smallN_b ab1 W (hV.b hW)
  obtain ⟨b1, hb1⟩ : ∃ b, b = (smallN ab1) := ⟨_, rfl⟩
  rw [← hb1] at hR hc1
  clear hb1
  replace hc1 := Lib.hid hc1
  have hc2 : ∀ W, Below w.heap.size w W → Calls Tryz.prog 78 #[.slice ah1.oa ay1.length ah1.cap, .int .i64 d] W fun e w' => e = .returned (.bool (rowOk d ay1)) ∧ Below W.heap.size W w' := fun W hW => validRow_step n ihS d hd ah1 ay1 W (hV.b hW) (Row.below hA hW fun _ _ hx => StH.below hx hW)
  obtain ⟨b2, hb2⟩ : ∃ b, b = (rowOk d ay1) := ⟨_, rfl⟩
  rw [← hb2] at hR hc2
  clear hb2
  replace hc2 := Lib.hid hc2
  clear hRR
  simp only [arV, arC]
  obtain ⟨W0, hW0⟩ : ∃ W, W = (w.alloc (.cells #[.string av1, .string ab1, .slice ah1.oa ay1.length ah1.cap] 107)) := ⟨_, rfl⟩
  have HW0 : Below w.heap.size w W0 := by rw [hW0]; exact (Below.refl _ _).alloc (Nat.le_refl _) _
  replace HW0 := Lib.hid HW0
  have r0 : W0.rangeAt (w.heap.size) 0 [.string av1, .string ab1, .slice ah1.oa ay1.length ah1.cap] := by
    have := rangeAt_box w [.string av1, .string ab1, .slice ah1.oa ay1.length ah1.cap] 107
    rw [hW0]
    simpa using this
  have hz0 := Lib.hid (show ∀ w', Below W0.heap.size W0 w' → (w'.cell? ⟨w.heap.size, 1, none⟩ = some (.string ab1)) from fun w' hb => rangeAt_below r0 hb 1 _ rfl)
  have hz1 := Lib.hid (show ∀ w', Below W0.heap.size W0 w' → (w'.cell? ⟨w.heap.size, 2, none⟩ = some (.slice ah1.oa ay1.length ah1.cap)) from fun w' hb => rangeAt_below r0 hb 2 _ rfl)
  clear r0
  cases b0 with
  | false =>
    have HR := Lib.hid (show R = false by rw [hR]; first | done | rfl)
    clear hR
    go_enter Tryz.func128, Tryz.ntmps128
    go_wp2_with fail
    rw [← hW0]
    clear hW0
    refine (hc0.out _ HW0.out).mono ?_
    rintro e w1 ⟨rfl, hb1'⟩
    have B1 := Lib.hid (HW0.out.trans (hb1'.mono HW0.out.size))
    have K1 := Lib.hid hb1'
    clear hb1'
    have z0_0 := hz0.out _ K1.out
    go_wp2_with fail
    go_ret
    exact ⟨by rw [HR.out]; first | done | rfl, B1.out⟩
  | true =>
    cases b1 with
    | false =>
      have HR := Lib.hid (show R = false by rw [hR]; first | done | rfl)
      clear hR
      go_enter Tryz.func128, Tryz.ntmps128
      go_wp2_with fail
      rw [← hW0]
      clear hW0
      refine (hc0.out _ HW0.out).mono ?_
      rintro e w1 ⟨rfl, hb1'⟩
      have B1 := Lib.hid (HW0.out.trans (hb1'.mono HW0.out.size))
      have K1 := Lib.hid hb1'
      clear hb1'
      have z0_0 := hz0.out _ K1.out
      go_wp2_with fail
      refine (hc1.out _ B1.out).mono ?_
      rintro e w2 ⟨rfl, hb2'⟩
      have B2 := Lib.hid (B1.out.trans (hb2'.mono B1.out.size))
      have K2 := Lib.hid (K1.out.trans (hb2'.mono K1.out.size))
      clear hb2'
      have z1_0 := hz1.out _ K2.out
      go_wp2_with fail
      go_ret
      exact ⟨by rw [HR.out]; first | done | rfl, B2.out⟩
    | true =>
      cases b2 with
      | false =>
        have HR := Lib.hid (show R = false by rw [hR]; first | done | rfl)
        clear hR
        go_enter Tryz.func128, Tryz.ntmps128
        go_wp2_with fail
        rw [← hW0]
        clear hW0
        refine (hc0.out _ HW0.out).mono ?_
        rintro e w1 ⟨rfl, hb1'⟩
        have B1 := Lib.hid (HW0.out.trans (hb1'.mono HW0.out.size))
        have K1 := Lib.hid hb1'
        clear hb1'
        have z0_0 := hz0.out _ K1.out
        go_wp2_with fail
        refine (hc1.out _ B1.out).mono ?_
        rintro e w2 ⟨rfl, hb2'⟩
        have B2 := Lib.hid (B1.out.trans (hb2'.mono B1.out.size))
        have K2 := Lib.hid (K1.out.trans (hb2'.mono K1.out.size))
        clear hb2'
        have z1_0 := hz1.out _ K2.out
        go_wp2_with fail
        refine (hc2.out _ B2.out).mono ?_
        rintro e w3 ⟨rfl, hb3'⟩
        have B3 := Lib.hid (B2.out.trans (hb3'.mono B2.out.size))
        have K3 := Lib.hid (K2.out.trans (hb3'.mono K2.out.size))
        clear hb3'
        go_wp2_with fail
        go_ret
        exact ⟨by rw [HR.out]; first | done | rfl, B3.out⟩
      | true =>
        have HR := Lib.hid (show R = true by rw [hR]; first | done | rfl)
        clear hR
        go_enter Tryz.func128, Tryz.ntmps128
        go_wp2_with fail
        rw [← hW0]
        clear hW0
        refine (hc0.out _ HW0.out).mono ?_
        rintro e w1 ⟨rfl, hb1'⟩
        have B1 := Lib.hid (HW0.out.trans (hb1'.mono HW0.out.size))
        have K1 := Lib.hid hb1'
        clear hb1'
        have z0_0 := hz0.out _ K1.out
        go_wp2_with fail
        refine (hc1.out _ B1.out).mono ?_
        rintro e w2 ⟨rfl, hb2'⟩
        have B2 := Lib.hid (B1.out.trans (hb2'.mono B1.out.size))
        have K2 := Lib.hid (K1.out.trans (hb2'.mono K1.out.size))
        clear hb2'
        have z1_0 := hz1.out _ K2.out
        go_wp2_with fail
        refine (hc2.out _ B2.out).mono ?_
        rintro e w3 ⟨rfl, hb3'⟩
        have B3 := Lib.hid (B2.out.trans (hb3'.mono B2.out.size))
        have K3 := Lib.hid (K2.out.trans (hb3'.mono K2.out.size))
        clear hb3'
        go_wp2_with fail
        go_ret
        exact ⟨by rw [HR.out]; first | done | rfl, B3.out⟩

theorem StAr.valid : ∀ (n : Nat), (∀ (d : Nat), d ≤ 60 → ∀ (x : St5) (w : World), Vz w → StH n w x → Calls Tryz.prog 104 #[stV x, .int .i64 d] w fun e w' => e = .returned (.bool (stOk d x)) ∧ Below w.heap.size w w') ∧
    (∀ (d : Nat), d ≤ 61 → ∀ (x : Ar5) (w : World), Vz w → ArH n w x → Calls Tryz.prog 128 #[arV x, .int .i64 d] w fun e w' => e = .returned (.bool (arOk d x)) ∧ Below w.heap.size w w')
  | 0 => ⟨by intro _ _ _ _ _ h; unfold StH at h; exact h.elim, by intro _ _ _ _ _ h; unfold ArH at h; exact h.elim⟩
  | n + 1 => by
    obtain ⟨i1, i2⟩ := StAr.valid n
    refine ⟨fun d hd x w hV hx => validStmt_step n d hd x w hx hV (validRow_step n i1) i2, fun d hd x w hV hx => ?_⟩
    obtain ⟨av, ab, ah, ay⟩ := x
    cases hem : emptyN ab with
    | true =>
      obtain rfl := empty_of hem
      exact arm_no n i1 d hd av ah ay w hx hV
    | false => exact arm_yes n i1 d hd av ab ah ay w hx hV hem
theorem validRow_any (n d : Nat) (hd : d ≤ 61) (h : Hd) (l : List St5) (w : World) (hV : Vz w) (hL : Row w h 21 l stC (StH n w)) :
    Calls Tryz.prog 78 #[.slice h.oa l.length h.cap, .int .i64 d] w fun e w' => e = .returned (.bool (rowOk d l)) ∧ Below w.heap.size w w' := validRow_step n (StAr.valid n).1 d hd h l w hV hL

set_option maxRecDepth 100000 in
set_option maxHeartbeats 4000000 in
theorem validFn_any (n : Nat) (f : Fn5) (w : World) (hF : FnH n w f) (hV : Vz w) : Calls Tryz.prog 45 #[fnV f] w fun e w' => e = .returned (.bool (fnOk f)) ∧ Below w.heap.size w w' := by
  obtain ⟨gn1, gh1, gp1, gi1, gb1, gq1⟩ := f
  obtain ⟨hF1, hF2⟩ := hF
  obtain ⟨R, hR⟩ : ∃ R, R = (fnOk ⟨gn1, gh1, gp1, gi1, gb1, gq1⟩) := ⟨_, rfl⟩
  rw [← hR]
  replace hR : R = ((smallN gn1) && (gp1.all fdOk) && (rowOk 1 gb1)) := hR.trans (by rfl)
  have hc0 : ∀ W, Below w.heap.size w W → Calls Tryz.prog 77 #[.string gn1] W fun e w' => e = .returned (.bool (smallN gn1)) ∧ Below W.heap.size W w' := fun W hW => smallN_b gn1 W (hV.b hW)
  obtain ⟨b0, hb0⟩ : ∃ b, b = (smallN gn1) := ⟨_, rfl⟩
  rw [← hb0] at hR hc0
  clear hb0
  replace hc0 := Lib.hid hc0
  have hc1 : ∀ W, Below w.heap.size w W → Calls Tryz.prog 73 #[.slice gh1.oa gp1.length gh1.cap, .func (.func 74) #[] #[]] W fun e w' => e = .returned (.bool (gp1.all fdOk)) ∧ Below W.heap.size W w' := fun W hW => allFd_any 74 enters74 fdOk (FdH n) (fun _ _ _ h hb => FdH.below h hb) W (fun x W2 hx hW2 => validField_any n x W2 hx ((hV.b hW).b hW2)) gh1 gp1 (Row.below hF1 hW fun _ _ hx => FdH.below hx hW)
  obtain ⟨b1, hb1⟩ : ∃ b, b = (gp1.all fdOk) := ⟨_, rfl⟩
  rw [← hb1] at hR hc1
  clear hb1
  replace hc1 := Lib.hid hc1
  have hc2 : ∀ W, Below w.heap.size w W → Calls Tryz.prog 78 #[.slice gi1.oa gb1.length gi1.cap, .int .i64 1] W fun e w' => e = .returned (.bool (rowOk 1 gb1)) ∧ Below W.heap.size W w' := fun W hW => validRow_any n 1 (by omega) gi1 gb1 W (hV.b hW) (Row.below hF2 hW fun _ _ hx => StH.below hx hW)
  obtain ⟨b2, hb2⟩ : ∃ b, b = (rowOk 1 gb1) := ⟨_, rfl⟩
  rw [← hb2] at hR hc2
  clear hb2
  replace hc2 := Lib.hid hc2
  simp only [fnV, fnC]
  obtain ⟨W0, hW0⟩ : ∃ W, W = (w.alloc (.cells #[.string gn1, .slice gh1.oa gp1.length gh1.cap, .slice gi1.oa gb1.length gi1.cap, .int .i64 gq1] 35)) := ⟨_, rfl⟩
  have HW0 : Below w.heap.size w W0 := by rw [hW0]; exact (Below.refl _ _).alloc (Nat.le_refl _) _
  replace HW0 := Lib.hid HW0
  have r0 : W0.rangeAt (w.heap.size) 0 [.string gn1, .slice gh1.oa gp1.length gh1.cap, .slice gi1.oa gb1.length gi1.cap, .int .i64 gq1] := by
    have := rangeAt_box w [.string gn1, .slice gh1.oa gp1.length gh1.cap, .slice gi1.oa gb1.length gi1.cap, .int .i64 gq1] 35
    rw [hW0]
    simpa using this
  have hz0 := Lib.hid (show ∀ w', Below W0.heap.size W0 w' → (w'.cell? ⟨w.heap.size, 1, none⟩ = some (.slice gh1.oa gp1.length gh1.cap)) from fun w' hb => rangeAt_below r0 hb 1 _ rfl)
  have hz1 := Lib.hid (show ∀ w', Below W0.heap.size W0 w' → (w'.cell? ⟨w.heap.size, 2, none⟩ = some (.slice gi1.oa gb1.length gi1.cap)) from fun w' hb => rangeAt_below r0 hb 2 _ rfl)
  clear r0
  cases b0 with
  | false =>
    have HR := Lib.hid (show R = false by rw [hR]; first | done | rfl)
    clear hR
    go_enter Tryz.func45, Tryz.ntmps45
    go_wp2_with fail
    rw [← hW0]
    clear hW0
    refine (hc0.out _ HW0.out).mono ?_
    rintro e w1 ⟨rfl, hb1'⟩
    have B1 := Lib.hid (HW0.out.trans (hb1'.mono HW0.out.size))
    have K1 := Lib.hid hb1'
    clear hb1'
    have z0_0 := hz0.out _ K1.out
    go_wp2_with fail
    go_ret
    exact ⟨by rw [HR.out]; first | done | rfl, B1.out⟩
  | true =>
    cases b1 with
    | false =>
      have HR := Lib.hid (show R = false by rw [hR]; first | done | rfl)
      clear hR
      go_enter Tryz.func45, Tryz.ntmps45
      go_wp2_with fail
      rw [← hW0]
      clear hW0
      refine (hc0.out _ HW0.out).mono ?_
      rintro e w1 ⟨rfl, hb1'⟩
      have B1 := Lib.hid (HW0.out.trans (hb1'.mono HW0.out.size))
      have K1 := Lib.hid hb1'
      clear hb1'
      have z0_0 := hz0.out _ K1.out
      go_wp2_with fail
      refine (hc1.out _ B1.out).mono ?_
      rintro e w2 ⟨rfl, hb2'⟩
      have B2 := Lib.hid (B1.out.trans (hb2'.mono B1.out.size))
      have K2 := Lib.hid (K1.out.trans (hb2'.mono K1.out.size))
      clear hb2'
      have z1_0 := hz1.out _ K2.out
      go_wp2_with fail
      go_ret
      exact ⟨by rw [HR.out]; first | done | rfl, B2.out⟩
    | true =>
      cases b2 with
      | false =>
        have HR := Lib.hid (show R = false by rw [hR]; first | done | rfl)
        clear hR
        go_enter Tryz.func45, Tryz.ntmps45
        go_wp2_with fail
        rw [← hW0]
        clear hW0
        refine (hc0.out _ HW0.out).mono ?_
        rintro e w1 ⟨rfl, hb1'⟩
        have B1 := Lib.hid (HW0.out.trans (hb1'.mono HW0.out.size))
        have K1 := Lib.hid hb1'
        clear hb1'
        have z0_0 := hz0.out _ K1.out
        go_wp2_with fail
        refine (hc1.out _ B1.out).mono ?_
        rintro e w2 ⟨rfl, hb2'⟩
        have B2 := Lib.hid (B1.out.trans (hb2'.mono B1.out.size))
        have K2 := Lib.hid (K1.out.trans (hb2'.mono K1.out.size))
        clear hb2'
        have z1_0 := hz1.out _ K2.out
        go_wp2_with fail
        refine (hc2.out _ B2.out).mono ?_
        rintro e w3 ⟨rfl, hb3'⟩
        have B3 := Lib.hid (B2.out.trans (hb3'.mono B2.out.size))
        have K3 := Lib.hid (K2.out.trans (hb3'.mono K2.out.size))
        clear hb3'
        go_wp2_with fail
        go_ret
        exact ⟨by rw [HR.out]; first | done | rfl, B3.out⟩
      | true =>
        have HR := Lib.hid (show R = true by rw [hR]; first | done | rfl)
        clear hR
        go_enter Tryz.func45, Tryz.ntmps45
        go_wp2_with fail
        rw [← hW0]
        clear hW0
        refine (hc0.out _ HW0.out).mono ?_
        rintro e w1 ⟨rfl, hb1'⟩
        have B1 := Lib.hid (HW0.out.trans (hb1'.mono HW0.out.size))
        have K1 := Lib.hid hb1'
        clear hb1'
        have z0_0 := hz0.out _ K1.out
        go_wp2_with fail
        refine (hc1.out _ B1.out).mono ?_
        rintro e w2 ⟨rfl, hb2'⟩
        have B2 := Lib.hid (B1.out.trans (hb2'.mono B1.out.size))
        have K2 := Lib.hid (K1.out.trans (hb2'.mono K1.out.size))
        clear hb2'
        have z1_0 := hz1.out _ K2.out
        go_wp2_with fail
        refine (hc2.out _ B2.out).mono ?_
        rintro e w3 ⟨rfl, hb3'⟩
        have B3 := Lib.hid (B2.out.trans (hb3'.mono B2.out.size))
        have K3 := Lib.hid (K2.out.trans (hb3'.mono K2.out.size))
        clear hb3'
        go_wp2_with fail
        go_ret
        exact ⟨by rw [HR.out]; first | done | rfl, B3.out⟩

set_option maxRecDepth 100000 in
set_option maxHeartbeats 4000000 in
theorem valid_any (n : Nat) (s : So5) (w : World) (hS : SoH n w s) (hV : Vz w) : Calls Tryz.prog 13 #[soV s] w fun e w' => e = .returned (.bool (soOk s)) ∧ Below w.heap.size w w' := by
  obtain ⟨hs1, ss1, he1, es1, hf1, fs1⟩ := s
  obtain ⟨hS1, hS2, hS3⟩ := hS
  obtain ⟨R, hR⟩ : ∃ R, R = (soOk ⟨hs1, ss1, he1, es1, hf1, fs1⟩) := ⟨_, rfl⟩
  rw [← hR]
  replace hR : R = ((ss1.all suOk) && (es1.all enOk) && (fs1.all fnOk)) := hR.trans (by rfl)
  have hc0 : ∀ W, Below w.heap.size w W → Calls Tryz.prog 40 #[.slice hs1.oa ss1.length hs1.cap, .func (.func 41) #[] #[]] W fun e w' => e = .returned (.bool (ss1.all suOk)) ∧ Below W.heap.size W w' := fun W hW => allSu_any 41 enters41 suOk (SuH n) (fun _ _ _ h hb => SuH.below h hb) W (fun x W2 hx hW2 => validStruct_any n x W2 hx ((hV.b hW).b hW2)) hs1 ss1 (Row.below hS1 hW fun _ _ hx => SuH.below hx hW)
  obtain ⟨b0, hb0⟩ : ∃ b, b = (ss1.all suOk) := ⟨_, rfl⟩
  rw [← hb0] at hR hc0
  clear hb0
  replace hc0 := Lib.hid hc0
  have hc1 : ∀ W, Below w.heap.size w W → Calls Tryz.prog 42 #[.slice he1.oa es1.length he1.cap, .func (.func 43) #[] #[]] W fun e w' => e = .returned (.bool (es1.all enOk)) ∧ Below W.heap.size W w' := fun W hW => allEn_any 43 enters43 enOk (EnH n) (fun _ _ _ h hb => EnH.below h hb) W (fun x W2 hx hW2 => validEnum_any n x W2 hx ((hV.b hW).b hW2)) he1 es1 (Row.below hS2 hW fun _ _ hx => EnH.below hx hW)
  obtain ⟨b1, hb1⟩ : ∃ b, b = (es1.all enOk) := ⟨_, rfl⟩
  rw [← hb1] at hR hc1
  clear hb1
  replace hc1 := Lib.hid hc1
  have hc2 : ∀ W, Below w.heap.size w W → Calls Tryz.prog 44 #[.slice hf1.oa fs1.length hf1.cap, .func (.func 45) #[] #[]] W fun e w' => e = .returned (.bool (fs1.all fnOk)) ∧ Below W.heap.size W w' := fun W hW => allFn_any 45 enters45 fnOk (FnH n) (fun _ _ _ h hb => FnH.below h hb) W (fun x W2 hx hW2 => validFn_any n x W2 hx ((hV.b hW).b hW2)) hf1 fs1 (Row.below hS3 hW fun _ _ hx => FnH.below hx hW)
  obtain ⟨b2, hb2⟩ : ∃ b, b = (fs1.all fnOk) := ⟨_, rfl⟩
  rw [← hb2] at hR hc2
  clear hb2
  replace hc2 := Lib.hid hc2
  simp only [soV]
  obtain ⟨W0, hW0⟩ : ∃ W, W = (w.alloc (.cells #[.slice hs1.oa ss1.length hs1.cap, .slice he1.oa es1.length he1.cap, .slice hf1.oa fs1.length hf1.cap] 26)) := ⟨_, rfl⟩
  have HW0 : Below w.heap.size w W0 := by rw [hW0]; exact (Below.refl _ _).alloc (Nat.le_refl _) _
  replace HW0 := Lib.hid HW0
  have r0 : W0.rangeAt (w.heap.size) 0 [.slice hs1.oa ss1.length hs1.cap, .slice he1.oa es1.length he1.cap, .slice hf1.oa fs1.length hf1.cap] := by
    have := rangeAt_box w [.slice hs1.oa ss1.length hs1.cap, .slice he1.oa es1.length he1.cap, .slice hf1.oa fs1.length hf1.cap] 26
    rw [hW0]
    simpa using this
  have hz0 := Lib.hid (show ∀ w', Below W0.heap.size W0 w' → (w'.cell? ⟨w.heap.size, 1, none⟩ = some (.slice he1.oa es1.length he1.cap)) from fun w' hb => rangeAt_below r0 hb 1 _ rfl)
  have hz1 := Lib.hid (show ∀ w', Below W0.heap.size W0 w' → (w'.cell? ⟨w.heap.size, 2, none⟩ = some (.slice hf1.oa fs1.length hf1.cap)) from fun w' hb => rangeAt_below r0 hb 2 _ rfl)
  clear r0
  cases b0 with
  | false =>
    have HR := Lib.hid (show R = false by rw [hR]; first | done | rfl)
    clear hR
    go_enter Tryz.func13, Tryz.ntmps13
    go_wp2_with fail
    rw [← hW0]
    clear hW0
    refine (hc0.out _ HW0.out).mono ?_
    rintro e w1 ⟨rfl, hb1'⟩
    have B1 := Lib.hid (HW0.out.trans (hb1'.mono HW0.out.size))
    have K1 := Lib.hid hb1'
    clear hb1'
    have z0_0 := hz0.out _ K1.out
    go_wp2_with fail
    go_ret
    exact ⟨by rw [HR.out]; first | done | rfl, B1.out⟩
  | true =>
    cases b1 with
    | false =>
      have HR := Lib.hid (show R = false by rw [hR]; first | done | rfl)
      clear hR
      go_enter Tryz.func13, Tryz.ntmps13
      go_wp2_with fail
      rw [← hW0]
      clear hW0
      refine (hc0.out _ HW0.out).mono ?_
      rintro e w1 ⟨rfl, hb1'⟩
      have B1 := Lib.hid (HW0.out.trans (hb1'.mono HW0.out.size))
      have K1 := Lib.hid hb1'
      clear hb1'
      have z0_0 := hz0.out _ K1.out
      go_wp2_with fail
      refine (hc1.out _ B1.out).mono ?_
      rintro e w2 ⟨rfl, hb2'⟩
      have B2 := Lib.hid (B1.out.trans (hb2'.mono B1.out.size))
      have K2 := Lib.hid (K1.out.trans (hb2'.mono K1.out.size))
      clear hb2'
      have z1_0 := hz1.out _ K2.out
      go_wp2_with fail
      go_ret
      exact ⟨by rw [HR.out]; first | done | rfl, B2.out⟩
    | true =>
      cases b2 with
      | false =>
        have HR := Lib.hid (show R = false by rw [hR]; first | done | rfl)
        clear hR
        go_enter Tryz.func13, Tryz.ntmps13
        go_wp2_with fail
        rw [← hW0]
        clear hW0
        refine (hc0.out _ HW0.out).mono ?_
        rintro e w1 ⟨rfl, hb1'⟩
        have B1 := Lib.hid (HW0.out.trans (hb1'.mono HW0.out.size))
        have K1 := Lib.hid hb1'
        clear hb1'
        have z0_0 := hz0.out _ K1.out
        go_wp2_with fail
        refine (hc1.out _ B1.out).mono ?_
        rintro e w2 ⟨rfl, hb2'⟩
        have B2 := Lib.hid (B1.out.trans (hb2'.mono B1.out.size))
        have K2 := Lib.hid (K1.out.trans (hb2'.mono K1.out.size))
        clear hb2'
        have z1_0 := hz1.out _ K2.out
        go_wp2_with fail
        refine (hc2.out _ B2.out).mono ?_
        rintro e w3 ⟨rfl, hb3'⟩
        have B3 := Lib.hid (B2.out.trans (hb3'.mono B2.out.size))
        have K3 := Lib.hid (K2.out.trans (hb3'.mono K2.out.size))
        clear hb3'
        go_wp2_with fail
        go_ret
        exact ⟨by rw [HR.out]; first | done | rfl, B3.out⟩
      | true =>
        have HR := Lib.hid (show R = true by rw [hR]; first | done | rfl)
        clear hR
        go_enter Tryz.func13, Tryz.ntmps13
        go_wp2_with fail
        rw [← hW0]
        clear hW0
        refine (hc0.out _ HW0.out).mono ?_
        rintro e w1 ⟨rfl, hb1'⟩
        have B1 := Lib.hid (HW0.out.trans (hb1'.mono HW0.out.size))
        have K1 := Lib.hid hb1'
        clear hb1'
        have z0_0 := hz0.out _ K1.out
        go_wp2_with fail
        refine (hc1.out _ B1.out).mono ?_
        rintro e w2 ⟨rfl, hb2'⟩
        have B2 := Lib.hid (B1.out.trans (hb2'.mono B1.out.size))
        have K2 := Lib.hid (K1.out.trans (hb2'.mono K1.out.size))
        clear hb2'
        have z1_0 := hz1.out _ K2.out
        go_wp2_with fail
        refine (hc2.out _ B2.out).mono ?_
        rintro e w3 ⟨rfl, hb3'⟩
        have B3 := Lib.hid (B2.out.trans (hb3'.mono B2.out.size))
        have K3 := Lib.hid (K2.out.trans (hb3'.mono K2.out.size))
        clear hb3'
        go_wp2_with fail
        go_ret
        exact ⟨by rw [HR.out]; first | done | rfl, B3.out⟩

set_option maxRecDepth 100000 in
set_option maxHeartbeats 4000000 in
theorem same_any (n : Nat) (a b : So5) (w : World) (hA : SoH n w a) (hB : SoH n w b) : Calls Tryz.prog 12 #[soV a, soV b] w fun e w' => e = .returned (.bool (soEq a b)) ∧ Below w.heap.size w w' := by
  obtain ⟨hs1, ss1, he1, es1, hf1, fs1⟩ := a
  obtain ⟨hs2, ss2, he2, es2, hf2, fs2⟩ := b
  obtain ⟨hA1, hA2, hA3⟩ := hA
  obtain ⟨hB1, hB2, hB3⟩ := hB
  obtain ⟨R, hR⟩ : ∃ R, R = (soEq ⟨hs1, ss1, he1, es1, hf1, fs1⟩ ⟨hs2, ss2, he2, es2, hf2, fs2⟩) := ⟨_, rfl⟩
  rw [← hR]
  replace hR : R = ((eqL suEq ss1 ss2) && (eqL enEq es1 es2) && (eqL fnEq fs1 fs2)) := hR.trans (by rfl)
  have hc0 : ∀ W, Below w.heap.size w W → Calls Tryz.prog 34 #[.slice hs1.oa ss1.length hs1.cap, .slice hs2.oa ss2.length hs2.cap, .func (.func 35) #[] #[]] W fun e w' => e = .returned (.bool (eqL suEq ss1 ss2)) ∧ Below W.heap.size W w' := fun W hW => eqSu_any 35 enters35 suEq (SuH n) (fun _ _ _ h hb => SuH.below h hb) (sameStruct_any n) hs1 hs2 ss1 ss2 W (Row.below hA1 hW fun _ _ hx => SuH.below hx hW) (Row.below hB1 hW fun _ _ hx => SuH.below hx hW)
  obtain ⟨b0, hb0⟩ : ∃ b, b = (eqL suEq ss1 ss2) := ⟨_, rfl⟩
  rw [← hb0] at hR hc0
  clear hb0
  replace hc0 := Lib.hid hc0
  have hc1 : ∀ W, Below w.heap.size w W → Calls Tryz.prog 36 #[.slice he1.oa es1.length he1.cap, .slice he2.oa es2.length he2.cap, .func (.func 37) #[] #[]] W fun e w' => e = .returned (.bool (eqL enEq es1 es2)) ∧ Below W.heap.size W w' := fun W hW => eqEn_any 37 enters37 enEq (EnH n) (fun _ _ _ h hb => EnH.below h hb) (sameEnum_any n) he1 he2 es1 es2 W (Row.below hA2 hW fun _ _ hx => EnH.below hx hW) (Row.below hB2 hW fun _ _ hx => EnH.below hx hW)
  obtain ⟨b1, hb1⟩ : ∃ b, b = (eqL enEq es1 es2) := ⟨_, rfl⟩
  rw [← hb1] at hR hc1
  clear hb1
  replace hc1 := Lib.hid hc1
  have hc2 : ∀ W, Below w.heap.size w W → Calls Tryz.prog 38 #[.slice hf1.oa fs1.length hf1.cap, .slice hf2.oa fs2.length hf2.cap, .func (.func 39) #[] #[]] W fun e w' => e = .returned (.bool (eqL fnEq fs1 fs2)) ∧ Below W.heap.size W w' := fun W hW => eqFn_any 39 enters39 fnEq (FnH n) (fun _ _ _ h hb => FnH.below h hb) (sameFn_any n (StAr.same n).1) hf1 hf2 fs1 fs2 W (Row.below hA3 hW fun _ _ hx => FnH.below hx hW) (Row.below hB3 hW fun _ _ hx => FnH.below hx hW)
  obtain ⟨b2, hb2⟩ : ∃ b, b = (eqL fnEq fs1 fs2) := ⟨_, rfl⟩
  rw [← hb2] at hR hc2
  clear hb2
  replace hc2 := Lib.hid hc2
  simp only [soV]
  obtain ⟨W0, hW0⟩ : ∃ W, W = ((w.alloc (.cells #[.slice hs1.oa ss1.length hs1.cap, .slice he1.oa es1.length he1.cap, .slice hf1.oa fs1.length hf1.cap] 26)).alloc (.cells #[.slice hs2.oa ss2.length hs2.cap, .slice he2.oa es2.length he2.cap, .slice hf2.oa fs2.length hf2.cap] 26)) := ⟨_, rfl⟩
  have HW0 : Below w.heap.size w W0 := by rw [hW0]; exact ((Below.refl _ _).alloc (Nat.le_refl _) _).alloc (by simp) _
  replace HW0 := Lib.hid HW0
  have r0 : W0.rangeAt (w.heap.size) 0 [.slice hs1.oa ss1.length hs1.cap, .slice he1.oa es1.length he1.cap, .slice hf1.oa fs1.length hf1.cap] := by
    have := rangeAt_below (rangeAt_box w [.slice hs1.oa ss1.length hs1.cap, .slice he1.oa es1.length he1.cap, .slice hf1.oa fs1.length hf1.cap] 26) (alloc_below _ (.cells #[.slice hs2.oa ss2.length hs2.cap, .slice he2.oa es2.length he2.cap, .slice hf2.oa fs2.length hf2.cap] 26))
    rw [hW0]
    simpa using this
  have r1 : W0.rangeAt (w.heap.size + 1) 0 [.slice hs2.oa ss2.length hs2.cap, .slice he2.oa es2.length he2.cap, .slice hf2.oa fs2.length hf2.cap] := by
    have := rangeAt_box (w.alloc (.cells #[.slice hs1.oa ss1.length hs1.cap, .slice he1.oa es1.length he1.cap, .slice hf1.oa fs1.length hf1.cap] 26)) [.slice hs2.oa ss2.length hs2.cap, .slice he2.oa es2.length he2.cap, .slice hf2.oa fs2.length hf2.cap] 26
    rw [hW0]
    simpa using this
  have hz0 := Lib.hid (show ∀ w', Below W0.heap.size W0 w' → (w'.cell? ⟨w.heap.size, 1, none⟩ = some (.slice he1.oa es1.length he1.cap) ∧ w'.cell? ⟨w.heap.size + 1, 1, none⟩ = some (.slice he2.oa es2.length he2.cap)) from fun w' hb => ⟨rangeAt_below r0 hb 1 _ rfl, rangeAt_below r1 hb 1 _ rfl⟩)
  have hz1 := Lib.hid (show ∀ w', Below W0.heap.size W0 w' → (w'.cell? ⟨w.heap.size, 2, none⟩ = some (.slice hf1.oa fs1.length hf1.cap) ∧ w'.cell? ⟨w.heap.size + 1, 2, none⟩ = some (.slice hf2.oa fs2.length hf2.cap)) from fun w' hb => ⟨rangeAt_below r0 hb 2 _ rfl, rangeAt_below r1 hb 2 _ rfl⟩)
  clear r0 r1
  cases b0 with
  | false =>
    have HR := Lib.hid (show R = false by rw [hR]; first | done | rfl)
    clear hR
    go_enter Tryz.func12, Tryz.ntmps12
    go_wp2_with fail
    rw [← hW0]
    clear hW0
    refine (hc0.out _ HW0.out).mono ?_
    rintro e w1 ⟨rfl, hb1'⟩
    have B1 := Lib.hid (HW0.out.trans (hb1'.mono HW0.out.size))
    have K1 := Lib.hid hb1'
    clear hb1'
    obtain ⟨z0_0, z0_1⟩ := hz0.out _ K1.out
    go_wp2_with fail
    go_ret
    exact ⟨by rw [HR.out]; first | done | rfl, B1.out⟩
  | true =>
    cases b1 with
    | false =>
      have HR := Lib.hid (show R = false by rw [hR]; first | done | rfl)
      clear hR
      go_enter Tryz.func12, Tryz.ntmps12
      go_wp2_with fail
      rw [← hW0]
      clear hW0
      refine (hc0.out _ HW0.out).mono ?_
      rintro e w1 ⟨rfl, hb1'⟩
      have B1 := Lib.hid (HW0.out.trans (hb1'.mono HW0.out.size))
      have K1 := Lib.hid hb1'
      clear hb1'
      obtain ⟨z0_0, z0_1⟩ := hz0.out _ K1.out
      go_wp2_with fail
      refine (hc1.out _ B1.out).mono ?_
      rintro e w2 ⟨rfl, hb2'⟩
      have B2 := Lib.hid (B1.out.trans (hb2'.mono B1.out.size))
      have K2 := Lib.hid (K1.out.trans (hb2'.mono K1.out.size))
      clear hb2'
      obtain ⟨z1_0, z1_1⟩ := hz1.out _ K2.out
      go_wp2_with fail
      go_ret
      exact ⟨by rw [HR.out]; first | done | rfl, B2.out⟩
    | true =>
      cases b2 with
      | false =>
        have HR := Lib.hid (show R = false by rw [hR]; first | done | rfl)
        clear hR
        go_enter Tryz.func12, Tryz.ntmps12
        go_wp2_with fail
        rw [← hW0]
        clear hW0
        refine (hc0.out _ HW0.out).mono ?_
        rintro e w1 ⟨rfl, hb1'⟩
        have B1 := Lib.hid (HW0.out.trans (hb1'.mono HW0.out.size))
        have K1 := Lib.hid hb1'
        clear hb1'
        obtain ⟨z0_0, z0_1⟩ := hz0.out _ K1.out
        go_wp2_with fail
        refine (hc1.out _ B1.out).mono ?_
        rintro e w2 ⟨rfl, hb2'⟩
        have B2 := Lib.hid (B1.out.trans (hb2'.mono B1.out.size))
        have K2 := Lib.hid (K1.out.trans (hb2'.mono K1.out.size))
        clear hb2'
        obtain ⟨z1_0, z1_1⟩ := hz1.out _ K2.out
        go_wp2_with fail
        refine (hc2.out _ B2.out).mono ?_
        rintro e w3 ⟨rfl, hb3'⟩
        have B3 := Lib.hid (B2.out.trans (hb3'.mono B2.out.size))
        have K3 := Lib.hid (K2.out.trans (hb3'.mono K2.out.size))
        clear hb3'
        go_wp2_with fail
        go_ret
        exact ⟨by rw [HR.out]; first | done | rfl, B3.out⟩
      | true =>
        have HR := Lib.hid (show R = true by rw [hR]; first | done | rfl)
        clear hR
        go_enter Tryz.func12, Tryz.ntmps12
        go_wp2_with fail
        rw [← hW0]
        clear hW0
        refine (hc0.out _ HW0.out).mono ?_
        rintro e w1 ⟨rfl, hb1'⟩
        have B1 := Lib.hid (HW0.out.trans (hb1'.mono HW0.out.size))
        have K1 := Lib.hid hb1'
        clear hb1'
        obtain ⟨z0_0, z0_1⟩ := hz0.out _ K1.out
        go_wp2_with fail
        refine (hc1.out _ B1.out).mono ?_
        rintro e w2 ⟨rfl, hb2'⟩
        have B2 := Lib.hid (B1.out.trans (hb2'.mono B1.out.size))
        have K2 := Lib.hid (K1.out.trans (hb2'.mono K1.out.size))
        clear hb2'
        obtain ⟨z1_0, z1_1⟩ := hz1.out _ K2.out
        go_wp2_with fail
        refine (hc2.out _ B2.out).mono ?_
        rintro e w3 ⟨rfl, hb3'⟩
        have B3 := Lib.hid (B2.out.trans (hb3'.mono B2.out.size))
        have K3 := Lib.hid (K2.out.trans (hb3'.mono K2.out.size))
        clear hb3'
        go_wp2_with fail
        go_ret
        exact ⟨by rw [HR.out]; first | done | rfl, B3.out⟩

end Go.Proofs.YtgogdcpgfmndnaaGreatDoor
