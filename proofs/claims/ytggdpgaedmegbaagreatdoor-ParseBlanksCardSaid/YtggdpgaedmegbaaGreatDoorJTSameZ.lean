/-
  tree.Same. Conditions: both sources lie in the heap.
-/
import Derived.Test.YtggdpgaedmegbaaGreatDoorJTSameS
import Derived.Test.YtggdpgaedmegbaaGreatDoorJTEqSt
namespace Go.Proofs.YtggdpgaedmegbaaGreatDoor
open Go.RowKit

theorem StAr.same : ∀ (n : Nat), (∀ (x y : St5) (w : World), StH n w x → StH n w y → Calls Tryz.prog 193 #[stV x, stV y] w fun e w' => e = .returned (.bool (stEq x y)) ∧ Below w.heap.size w w') ∧
    (∀ (x y : Ar5) (w : World), ArH n w x → ArH n w y → Calls Tryz.prog 261 #[arV x, arV y] w fun e w' => e = .returned (.bool (arEq x y)) ∧ Below w.heap.size w w')
  | 0 => ⟨by intro _ _ _ h; unfold StH at h; exact h.elim, by intro _ _ _ h; unfold ArH at h; exact h.elim⟩
  | n + 1 => by
    obtain ⟨i1, i2⟩ := StAr.same n
    exact ⟨fun x y w hx hy => sameStmt_step n i1 i2 x y w hx hy, fun x y w hx hy => sameArm_step n i1 x y w hx hy⟩
theorem sameStmt_any (n : Nat) (x y : St5) (w : World) (hx : StH n w x) (hy : StH n w y) : Calls Tryz.prog 193 #[stV x, stV y] w fun e w' => e = .returned (.bool (stEq x y)) ∧ Below w.heap.size w w' := (StAr.same n).1 x y w hx hy

set_option maxRecDepth 100000 in
set_option maxHeartbeats 4000000 in
theorem same_any (n : Nat) (a b : So5) (w : World) (hA : SoH n w a) (hB : SoH n w b) : Calls Tryz.prog 19 #[soV a, soV b] w fun e w' => e = .returned (.bool (soEq a b)) ∧ Below w.heap.size w w' := by
  obtain ⟨hs1, ss1, he1, es1, hf1, fs1⟩ := a
  obtain ⟨hs2, ss2, he2, es2, hf2, fs2⟩ := b
  obtain ⟨hA1, hA2, hA3⟩ := hA
  obtain ⟨hB1, hB2, hB3⟩ := hB
  obtain ⟨R, hR⟩ : ∃ R, R = (soEq ⟨hs1, ss1, he1, es1, hf1, fs1⟩ ⟨hs2, ss2, he2, es2, hf2, fs2⟩) := ⟨_, rfl⟩
  rw [← hR]
  replace hR : R = ((eqL suEq ss1 ss2) && (eqL enEq es1 es2) && (eqL fnEq fs1 fs2)) := hR.trans (by rfl)
  have hc0 : ∀ W, Below w.heap.size w W → Calls Tryz.prog 47 #[.slice hs1.oa ss1.length hs1.cap, .slice hs2.oa ss2.length hs2.cap, .func (.func 48) #[] #[]] W fun e w' => e = .returned (.bool (eqL suEq ss1 ss2)) ∧ Below W.heap.size W w' := fun W hW => eqSu_any 48 entersq35 suEq (SuH n) (fun _ _ _ h hb => SuH.below h hb) (sameStruct_any n) hs1 hs2 ss1 ss2 W (Row.below hA1 hW fun _ _ hx => SuH.below hx hW) (Row.below hB1 hW fun _ _ hx => SuH.below hx hW)
  obtain ⟨b0, hb0⟩ : ∃ b, b = (eqL suEq ss1 ss2) := ⟨_, rfl⟩
  rw [← hb0] at hR hc0
  clear hb0
  replace hc0 := Lib.hid hc0
  have hc1 : ∀ W, Below w.heap.size w W → Calls Tryz.prog 49 #[.slice he1.oa es1.length he1.cap, .slice he2.oa es2.length he2.cap, .func (.func 50) #[] #[]] W fun e w' => e = .returned (.bool (eqL enEq es1 es2)) ∧ Below W.heap.size W w' := fun W hW => eqEn_any 50 entersq37 enEq (EnH n) (fun _ _ _ h hb => EnH.below h hb) (sameEnum_any n) he1 he2 es1 es2 W (Row.below hA2 hW fun _ _ hx => EnH.below hx hW) (Row.below hB2 hW fun _ _ hx => EnH.below hx hW)
  obtain ⟨b1, hb1⟩ : ∃ b, b = (eqL enEq es1 es2) := ⟨_, rfl⟩
  rw [← hb1] at hR hc1
  clear hb1
  replace hc1 := Lib.hid hc1
  have hc2 : ∀ W, Below w.heap.size w W → Calls Tryz.prog 51 #[.slice hf1.oa fs1.length hf1.cap, .slice hf2.oa fs2.length hf2.cap, .func (.func 52) #[] #[]] W fun e w' => e = .returned (.bool (eqL fnEq fs1 fs2)) ∧ Below W.heap.size W w' := fun W hW => eqFn_any 52 entersq39 fnEq (FnH n) (fun _ _ _ h hb => FnH.below h hb) (sameFn_any n (StAr.same n).1) hf1 hf2 fs1 fs2 W (Row.below hA3 hW fun _ _ hx => FnH.below hx hW) (Row.below hB3 hW fun _ _ hx => FnH.below hx hW)
  obtain ⟨b2, hb2⟩ : ∃ b, b = (eqL fnEq fs1 fs2) := ⟨_, rfl⟩
  rw [← hb2] at hR hc2
  clear hb2
  replace hc2 := Lib.hid hc2
  simp only [soV]
  obtain ⟨W0, hW0⟩ : ∃ W, W = ((w.alloc (.cells #[.slice hs1.oa ss1.length hs1.cap, .slice he1.oa es1.length he1.cap, .slice hf1.oa fs1.length hf1.cap] 27)).alloc (.cells #[.slice hs2.oa ss2.length hs2.cap, .slice he2.oa es2.length he2.cap, .slice hf2.oa fs2.length hf2.cap] 27)) := ⟨_, rfl⟩
  have HW0 : Below w.heap.size w W0 := by rw [hW0]; exact ((Below.refl _ _).alloc (Nat.le_refl _) _).alloc (by simp) _
  replace HW0 := Lib.hid HW0
  have r0 : W0.rangeAt (w.heap.size) 0 [.slice hs1.oa ss1.length hs1.cap, .slice he1.oa es1.length he1.cap, .slice hf1.oa fs1.length hf1.cap] := by
    have := rangeAt_below (rangeAt_box w [.slice hs1.oa ss1.length hs1.cap, .slice he1.oa es1.length he1.cap, .slice hf1.oa fs1.length hf1.cap] 27) (alloc_below _ (.cells #[.slice hs2.oa ss2.length hs2.cap, .slice he2.oa es2.length he2.cap, .slice hf2.oa fs2.length hf2.cap] 27))
    rw [hW0]
    simpa using this
  have r1 : W0.rangeAt (w.heap.size + 1) 0 [.slice hs2.oa ss2.length hs2.cap, .slice he2.oa es2.length he2.cap, .slice hf2.oa fs2.length hf2.cap] := by
    have := rangeAt_box (w.alloc (.cells #[.slice hs1.oa ss1.length hs1.cap, .slice he1.oa es1.length he1.cap, .slice hf1.oa fs1.length hf1.cap] 27)) [.slice hs2.oa ss2.length hs2.cap, .slice he2.oa es2.length he2.cap, .slice hf2.oa fs2.length hf2.cap] 27
    rw [hW0]
    simpa using this
  have hz0 := Lib.hid (show ∀ w', Below W0.heap.size W0 w' → (w'.cell? ⟨w.heap.size, 1, none⟩ = some (.slice he1.oa es1.length he1.cap) ∧ w'.cell? ⟨w.heap.size + 1, 1, none⟩ = some (.slice he2.oa es2.length he2.cap)) from fun w' hb => ⟨rangeAt_below r0 hb 1 _ rfl, rangeAt_below r1 hb 1 _ rfl⟩)
  have hz1 := Lib.hid (show ∀ w', Below W0.heap.size W0 w' → (w'.cell? ⟨w.heap.size, 2, none⟩ = some (.slice hf1.oa fs1.length hf1.cap) ∧ w'.cell? ⟨w.heap.size + 1, 2, none⟩ = some (.slice hf2.oa fs2.length hf2.cap)) from fun w' hb => ⟨rangeAt_below r0 hb 2 _ rfl, rangeAt_below r1 hb 2 _ rfl⟩)
  clear r0 r1
  cases b0 with
  | false =>
    have HR := Lib.hid (show R = false by rw [hR]; first | done | rfl)
    clear hR
    go_enter Tryz.func19, Tryz.ntmps19
    go_wp2_with fail
    rw [← hW0]
    clear hW0
    refine (hc0.out _ HW0.out).mono ?_
    rintro e w1 ⟨rfl, hb1'⟩
    have B1 := Lib.hid (HW0.out.trans (hb1'.mono HW0.out.size))
    have K1 := Lib.hid hb1'
    clear hb1'
    obtain ⟨z0_0, z0_1⟩ := hz0.out _ K1.out
    go_wp2_with fail
    go_ret
    exact ⟨by rw [HR.out]; first | done | rfl, B1.out⟩
  | true =>
    cases b1 with
    | false =>
      have HR := Lib.hid (show R = false by rw [hR]; first | done | rfl)
      clear hR
      go_enter Tryz.func19, Tryz.ntmps19
      go_wp2_with fail
      rw [← hW0]
      clear hW0
      refine (hc0.out _ HW0.out).mono ?_
      rintro e w1 ⟨rfl, hb1'⟩
      have B1 := Lib.hid (HW0.out.trans (hb1'.mono HW0.out.size))
      have K1 := Lib.hid hb1'
      clear hb1'
      obtain ⟨z0_0, z0_1⟩ := hz0.out _ K1.out
      go_wp2_with fail
      refine (hc1.out _ B1.out).mono ?_
      rintro e w2 ⟨rfl, hb2'⟩
      have B2 := Lib.hid (B1.out.trans (hb2'.mono B1.out.size))
      have K2 := Lib.hid (K1.out.trans (hb2'.mono K1.out.size))
      clear hb2'
      obtain ⟨z1_0, z1_1⟩ := hz1.out _ K2.out
      go_wp2_with fail
      go_ret
      exact ⟨by rw [HR.out]; first | done | rfl, B2.out⟩
    | true =>
      cases b2 with
      | false =>
        have HR := Lib.hid (show R = false by rw [hR]; first | done | rfl)
        clear hR
        go_enter Tryz.func19, Tryz.ntmps19
        go_wp2_with fail
        rw [← hW0]
        clear hW0
        refine (hc0.out _ HW0.out).mono ?_
        rintro e w1 ⟨rfl, hb1'⟩
        have B1 := Lib.hid (HW0.out.trans (hb1'.mono HW0.out.size))
        have K1 := Lib.hid hb1'
        clear hb1'
        obtain ⟨z0_0, z0_1⟩ := hz0.out _ K1.out
        go_wp2_with fail
        refine (hc1.out _ B1.out).mono ?_
        rintro e w2 ⟨rfl, hb2'⟩
        have B2 := Lib.hid (B1.out.trans (hb2'.mono B1.out.size))
        have K2 := Lib.hid (K1.out.trans (hb2'.mono K1.out.size))
        clear hb2'
        obtain ⟨z1_0, z1_1⟩ := hz1.out _ K2.out
        go_wp2_with fail
        refine (hc2.out _ B2.out).mono ?_
        rintro e w3 ⟨rfl, hb3'⟩
        have B3 := Lib.hid (B2.out.trans (hb3'.mono B2.out.size))
        have K3 := Lib.hid (K2.out.trans (hb3'.mono K2.out.size))
        clear hb3'
        go_wp2_with fail
        go_ret
        exact ⟨by rw [HR.out]; first | done | rfl, B3.out⟩
      | true =>
        have HR := Lib.hid (show R = true by rw [hR]; first | done | rfl)
        clear hR
        go_enter Tryz.func19, Tryz.ntmps19
        go_wp2_with fail
        rw [← hW0]
        clear hW0
        refine (hc0.out _ HW0.out).mono ?_
        rintro e w1 ⟨rfl, hb1'⟩
        have B1 := Lib.hid (HW0.out.trans (hb1'.mono HW0.out.size))
        have K1 := Lib.hid hb1'
        clear hb1'
        obtain ⟨z0_0, z0_1⟩ := hz0.out _ K1.out
        go_wp2_with fail
        refine (hc1.out _ B1.out).mono ?_
        rintro e w2 ⟨rfl, hb2'⟩
        have B2 := Lib.hid (B1.out.trans (hb2'.mono B1.out.size))
        have K2 := Lib.hid (K1.out.trans (hb2'.mono K1.out.size))
        clear hb2'
        obtain ⟨z1_0, z1_1⟩ := hz1.out _ K2.out
        go_wp2_with fail
        refine (hc2.out _ B2.out).mono ?_
        rintro e w3 ⟨rfl, hb3'⟩
        have B3 := Lib.hid (B2.out.trans (hb3'.mono B2.out.size))
        have K3 := Lib.hid (K2.out.trans (hb3'.mono K2.out.size))
        clear hb3'
        go_wp2_with fail
        go_ret
        exact ⟨by rw [HR.out]; first | done | rfl, B3.out⟩


end Go.Proofs.YtggdpgaedmegbaaGreatDoor
