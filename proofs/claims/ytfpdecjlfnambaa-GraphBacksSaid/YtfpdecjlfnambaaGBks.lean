/-
  GraphBacks's walk. Conditions: the arguments lie in the heap.
-/
import Derived.Test.YtfpdecjlfnambaaGRBack
namespace Go.Proofs.Ytfpdecjlfnambaa
open Go Go.RowKit

theorem BkS.small {g : Gb} {n : Nat} {C : List Chg} {X : List (List (List Bool))} (h : BkS g n C X) (hs : g.length ≤ 1000 ∧ (∀ i, insR g i ≤ 1000) ∧ n ≤ 1000) : X.length ≤ 1000 ∧ ∀ S ∈ X, S.length ≤ 2000 ∧ ∀ st ∈ S, st.length ≤ 1000 := by
  refine ⟨by rw [h.len]; exact hs.1, fun S hS => ?_⟩
  obtain ⟨i, hi, rfl⟩ := List.mem_iff_getElem.1 hS
  have hig : i < g.length := by rw [← h.len]; exact hi
  have e : rowZ X i = X[i] := by rw [rowZ, List.getElem?_eq_getElem hi]; rfl
  rw [← e]
  have key : (rowZ X i).length ≤ insR g i + 2 ∧ ∀ k, k < (rowZ X i).length → (stateZ X i k).length = n := by
    exact ⟨by rw [h.cnt i hig]; exact Nat.le_refl _, fun k hk => h.row i k hig (by rw [h.cnt i hig] at hk; exact hk)⟩
  refine ⟨by have := hs.2.1 i; omega, fun st hst => ?_⟩
  obtain ⟨k, hk, rfl⟩ := List.mem_iff_getElem.1 hst
  have h2 := key.2 k hk
  rw [stateZ, List.getElem?_eq_getElem hk] at h2
  have h3 : ((rowZ X i)[k]).length = n := h2
  rw [h3]
  exact hs.2.2

set_option maxRecDepth 100000 in
set_option maxHeartbeats 8000000 in
theorem graphBacks_walk (B : Bv) (ni : Int) (oc : Option Addr) (capC : Nat) (C : List Chg) (w : World)
    (hB : B.At w.heap.size w) (hgl : B.g.length ≤ maxLen) (hC : CRow w.heap.size w oc C) (hcl : C.length ≤ maxLen) :
    Calls Try.prog 4 #[B.v, .int .i64 ni, .slice oc C.length capC] w fun e w' => e = .returned (.bool true) ∧ Below w.heap.size w w' := by
  obtain ⟨nm, pa, lo, oa, cap, g⟩ := B
  simp only at hgl ⊢
  obtain ⟨L, hL⟩ : ∃ L, L = g.length := ⟨_, rfl⟩
  obtain ⟨kC, hnC⟩ : ∃ k, k = C.length := ⟨_, rfl⟩
  skip
  unfold maxLen at hgl hcl
  have bL : L ≤ 9223372036854775807 := by omega
  have bC' : kC ≤ 9223372036854775807 := by omega
  rw [← hnC]
  have HA := Lib.hid (And.intro hB (And.intro hC (And.intro hL hnC)))
  unfold Bv.v Bv.cs
  simp only [← hL]
  clear hB hC hL hnC hgl hcl
  go_enter Try.func4, Try.ntmps4
  go_upto_region 1 with fail
  obtain ⟨wa, hwa⟩ : ∃ wa, wa = w.alloc (.cells #[nm, pa, lo, .slice oa L cap] 25) := ⟨_, rfl⟩
  obtain ⟨s, hs⟩ : ∃ s, s = w.heap.size := ⟨_, rfl⟩
  rw [← hwa, ← hs]
  have hxa : Bx wa s 25 [nm, pa, lo, .slice oa L cap] := by
    rw [hwa, hs]
    exact Bx.new w _ [nm, pa, lo, .slice oa L cap]
  have hba : Below w.heap.size w wa := by
    rw [hwa]
    exact (Below.refl _ _).alloc (Nat.le_refl _) _
  have HW := Lib.hid (And.intro hxa (And.intro hba hs))
  clear hxa hba hs hwa
  have HOV : Go.RowKit.Hid (∀ W, Below w.heap.size w W → Calls Try.prog 11 #[.agg #[nm, pa, lo, .slice oa L cap], .int .i64 ni, .slice oc kC capC] W fun e w' => OverT g ni C W e w') := Lib.hid (fun W hb => by
    obtain ⟨hB, hC, hL, hnC⟩ := HA.out
    have h := over_any w.heap.size ⟨nm, pa, lo, oa, cap, g⟩ ni oc capC C W (hB.below hb (Nat.le_refl _)) (hC.below hb (Nat.le_refl _)) hb.size
    unfold Bv.v Bv.cs at h
    simp only [← hL, ← hnC] at h
    exact h)
  go_upto_region 4 with (go_at_call 10; refine (works_any _).mono ?_; rintro e w1 ⟨rfl, h1⟩; have hx1 := HW.out.1.below h1 HW.out.1.lt; have e0 := hx1.cell 0; have e1 := hx1.cell 1; have e2 := hx1.cell 2; have e3 := hx1.cell 3; have H1 := Lib.hid (And.intro hx1 (HW.out.2.1.trans (h1.mono HW.out.2.1.size))); simp at e0 e1 e2 e3; clear h1 hx1)
  go_upto_region 5 with (go_at_call 11; refine (HOV.out _ H1.out.2).mono ?_; clear e0 e1 e2 e3; rintro e w2 ⟨h2, o, rfl, ho⟩)
  have hx2 := H1.out.1.below h2 H1.out.1.lt
  have e0 := hx2.cell 0
  have e1 := hx2.cell 1
  have e2 := hx2.cell 2
  have e3 := hx2.cell 3
  simp at e0 e1 e2 e3
  have H2 := Lib.hid (And.intro hx2 (And.intro (H1.out.2.trans (h2.mono H1.out.2.size)) ho))
  clear h2 hx2 ho HOV
  cases o with
  | true =>
    go_wp2
    go_ret
    exact ⟨rfl, H2.out.2.1⟩
  | false =>
    have hsm := small_of (B := ⟨nm, pa, lo, oa, cap, g⟩) (H2.out.2.2 rfl)
    have hb30 := H2.out.2.2 rfl
    have HS := Lib.hid (And.intro (show g.length ≤ 1000 ∧ (∀ i, insR g i ≤ 1000) ∧ ni.toNat ≤ 1000 from ⟨hsm.1.1, fun i => (hsm.1.2 i).1, hsm.2.2⟩) (And.intro hsm hb30))
    skip
    clear hsm hb30 bL bC'
    have HFL : Go.RowKit.Hid (∀ W, Below w.heap.size w W → Calls Try.prog 16 #[.agg #[nm, pa, lo, .slice oa L cap], .int .i64 ni, .slice oc kC capC] W fun e w' => BackZ g ni.toNat C W e w') := Lib.hid (fun W hb => by
      obtain ⟨hB, hC, hL, hnC⟩ := HA.out
      have h := backZ_any w.heap.size ⟨nm, pa, lo, oa, cap, g⟩ ni oc capC C W (hB.below hb (Nat.le_refl _)) HS.out.2.1.1 (hC.below hb (Nat.le_refl _)) HS.out.2.1.2.1 HS.out.2.1.2.2 hb.size
      unfold Bv.v Bv.cs at h
      simp only [← hL, ← hnC] at h
      exact h)
    have HCH : Go.RowKit.Hid (∀ W, Below w.heap.size w W → Calls Try.prog 15 #[.slice oc kC capC] W fun e w' => ∃ o' c', e = .returned (.slice o' kC c') ∧ Below W.heap.size W w' ∧ CRow w'.heap.size w' o' C) := Lib.hid (fun W hb => by
      obtain ⟨hB, hC, hL, hnC⟩ := HA.out
      have h := changes_any w.heap.size oc capC C W (hC.below hb (Nat.le_refl _)) (by have := HS.out.2.1.2.1.1; omega) hb.size
      rw [← hnC] at h
      exact h)
    have HRF : Go.RowKit.Hid (∀ o' c' W, Below w.heap.size w W → CRow W.heap.size W o' C → Calls Try.prog 17 #[.agg #[nm, pa, lo, .slice oa L cap], .int .i64 ni, .slice o' kC c'] W fun e w' => BackZ g ni.toNat C W e w') := Lib.hid (fun o' c' W hb hcr => by
      obtain ⟨hB, hC, hL, hnC⟩ := HA.out
      have h := rback_any W.heap.size ⟨nm, pa, lo, oa, cap, g⟩ ni ni.toNat o' c' C W rfl ((hB.below hb (Nat.le_refl _)).mono hb.size) HS.out.2.1.1 hcr HS.out.2.1.2.1 HS.out.2.1.2.2 (Nat.le_refl _)
      unfold Bv.v Bv.cs at h
      simp only [← hL, ← hnC] at h
      exact h)
    go_upto_region 7 with fail
    skip
    refine wp_region_held_drew (S := (fun w' => w'.cell? ⟨s, 0, none⟩ = some nm ∧ w'.cell? ⟨s, 1, none⟩ = some pa ∧ w'.cell? ⟨s, 2, none⟩ = some lo ∧ w'.cell? ⟨s, 3, none⟩ = some (.slice oa L cap))) (by kernel_rfl) ?_ (fun hHeld => ?_)
    · exact ⟨e0, e1, e2, e3⟩
    have HD2 := Lib.hid (show Bx w2.drew s 25 [nm, pa, lo, .slice oa L cap] ∧ Below w.heap.size w w2.drew from ⟨H2.out.1, H2.out.2.1.drew⟩)
    clear e0 e1 e2 e3
    refine wpAnyH_take (i := 0) (oi := { dst := some 19, op := Op.load 25 (Operand.tmp 3), type := 25, pos := "law.go:75", after := #[], guard := none }) (v := ?vq0_12) rfl (by kernel_rfl) (by kernel_rfl) (by kernel_rfl) (fun _ _ _ h => h) (Or.inl ⟨by rfl, ?hq0_12⟩) (by assumption) ?_
    case hq0_12 => intro w hSw; (try dsimp only at hSw); go_simp; try (with_reducible rfl)
    (try simp only [Act.put, List.setIfInBounds_toArray, List.set_cons_zero, List.set_cons_succ])
    refine wpAnyH_take (i := 1) (oi := { dst := some 20, op := Op.move (Operand.tmp 1), type := 3, pos := "law.go:75", after := #[], guard := none }) (v := ?vq1_13) rfl (by kernel_rfl) (by kernel_rfl) (by kernel_rfl) (fun _ _ _ h => h) (Or.inl ⟨by rfl, ?hq1_13⟩) (by assumption) ?_
    case hq1_13 => intro w hSw; (try dsimp only at hSw); go_simp; try (with_reducible rfl)
    (try simp only [Act.put, List.setIfInBounds_toArray, List.set_cons_zero, List.set_cons_succ])
    refine wpAnyH_take (i := 2) (oi := { dst := some 21, op := Op.move (Operand.tmp 2), type := 27, pos := "law.go:75", after := #[], guard := none }) (v := ?vq2_14) rfl (by kernel_rfl) (by kernel_rfl) (by kernel_rfl) (fun _ _ _ h => h) (Or.inl ⟨by rfl, ?hq2_14⟩) (by assumption) ?_
    case hq2_14 => intro w hSw; (try dsimp only at hSw); go_simp; try (with_reducible rfl)
    (try simp only [Act.put, List.setIfInBounds_toArray, List.set_cons_zero, List.set_cons_succ])
    refine wpAnyH_take (i := 4) (oi := { dst := some 23, op := Op.load 25 (Operand.tmp 3), type := 25, pos := "law.go:75", after := #[], guard := none }) (v := ?vq4_15) rfl (by kernel_rfl) (by kernel_rfl) (by kernel_rfl) (fun _ _ _ h => h) (Or.inl ⟨by rfl, ?hq4_15⟩) (by assumption) ?_
    case hq4_15 => intro w hSw; (try dsimp only at hSw); go_simp; try (with_reducible rfl)
    (try simp only [Act.put, List.setIfInBounds_toArray, List.set_cons_zero, List.set_cons_succ])
    refine wpAnyH_take (i := 5) (oi := { dst := some 24, op := Op.move (Operand.tmp 1), type := 3, pos := "law.go:75", after := #[], guard := none }) (v := ?vq5_16) rfl (by kernel_rfl) (by kernel_rfl) (by kernel_rfl) (fun _ _ _ h => h) (Or.inl ⟨by rfl, ?hq5_16⟩) (by assumption) ?_
    case hq5_16 => intro w hSw; (try dsimp only at hSw); go_simp; try (with_reducible rfl)
    (try simp only [Act.put, List.setIfInBounds_toArray, List.set_cons_zero, List.set_cons_succ])
    refine wpAnyH_take (i := 6) (oi := { dst := some 25, op := Op.move (Operand.tmp 2), type := 27, pos := "law.go:75", after := #[], guard := none }) (v := ?vq6_17) rfl (by kernel_rfl) (by kernel_rfl) (by kernel_rfl) (fun _ _ _ h => h) (Or.inl ⟨by rfl, ?hq6_17⟩) (by assumption) ?_
    case hq6_17 => intro w hSw; (try dsimp only at hSw); go_simp; try (with_reducible rfl)
    (try simp only [Act.put, List.setIfInBounds_toArray, List.set_cons_zero, List.set_cons_succ])
    refine wpAnyH_ready (rs := [3]) (by kernel_rfl) (by simp) ?_
    refine AllReadyH.cons (o := { dst := some 22, op := Op.call { callee := Callee.value (Operand.func 16), args := #[Operand.tmp 19, Operand.tmp 20, Operand.tmp 21], argTypes := #[25, 3, 27] }, type := 31, pos := "law.go:75", after := #[{ on := 0, ground := Ground.data }, { on := 1, ground := Ground.data }, { on := 2, ground := Ground.data }], guard := none }) rfl (fun K hK => ?_) AllReadyH.nil
    go_simp
    refine (HFL.out _ HD2.out.2).mono ?_
    rintro e w3 ⟨v1, X, rfl, k1, k2, k3⟩
    have HD3 : Go.RowKit.Hid (Bx w3 s 25 [nm, pa, lo, .slice oa L cap] ∧ Below w.heap.size w w3) := Lib.hid ⟨HD2.out.1.below k1 HD2.out.1.lt, HD2.out.2.trans (k1.mono HD2.out.2.size)⟩
    have hS : w3.cell? ⟨s, 0, none⟩ = some nm ∧ w3.cell? ⟨s, 1, none⟩ = some pa ∧ w3.cell? ⟨s, 2, none⟩ = some lo ∧ w3.cell? ⟨s, 3, none⟩ = some (.slice oa L cap) := by
      have h := HD3.out.1
      exact ⟨by simpa using h.cell 0, by simpa using h.cell 1, by simpa using h.cell 2, by simpa using h.cell 3⟩
    refine hK.out _ _ hS (fun hHeld => ?_)
    clear hK K hS
    have HX := Lib.hid (And.intro k2 k3)
    clear k1 k2 k3
    (try simp only [Act.put, List.setIfInBounds_toArray, List.set_cons_zero, List.set_cons_succ])
    refine wpAnyH_ready (rs := [7]) (by kernel_rfl) (by simp) ?_
    refine AllReadyH.cons (o := { dst := some 26, op := Op.call { callee := Callee.value (Operand.func 15), args := #[Operand.tmp 25], argTypes := #[27] }, type := 34, pos := "law.go:75", after := #[{ on := 6, ground := Ground.data }, { on := 3, ground := Ground.chain }], guard := none }) rfl (fun K hK => ?_) AllReadyH.nil
    go_simp
    refine (HCH.out _ HD3.out.2).mono ?_
    rintro e w4 ⟨oR, cR, rfl, k1, k2⟩
    have HD4 : Go.RowKit.Hid (Bx w4 s 25 [nm, pa, lo, .slice oa L cap] ∧ Below w.heap.size w w4) := Lib.hid ⟨HD3.out.1.below k1 HD3.out.1.lt, HD3.out.2.trans (k1.mono HD3.out.2.size)⟩
    have hS : w4.cell? ⟨s, 0, none⟩ = some nm ∧ w4.cell? ⟨s, 1, none⟩ = some pa ∧ w4.cell? ⟨s, 2, none⟩ = some lo ∧ w4.cell? ⟨s, 3, none⟩ = some (.slice oa L cap) := by
      have h := HD4.out.1
      exact ⟨by simpa using h.cell 0, by simpa using h.cell 1, by simpa using h.cell 2, by simpa using h.cell 3⟩
    refine hK.out _ _ hS (fun hHeld => ?_)
    clear hK K hS
    have HC4 := Lib.hid (And.intro k1 k2)
    clear k1 k2
    (try simp only [Act.put, List.setIfInBounds_toArray, List.set_cons_zero, List.set_cons_succ])
    refine wpAnyH_ready (rs := [8]) (by kernel_rfl) (by simp) ?_
    refine AllReadyH.cons (o := { dst := some 27, op := Op.call { callee := Callee.value (Operand.func 17), args := #[Operand.tmp 23, Operand.tmp 24, Operand.tmp 26], argTypes := #[25, 3, 34] }, type := 31, pos := "law.go:75", after := #[{ on := 4, ground := Ground.data }, { on := 5, ground := Ground.data }, { on := 7, ground := Ground.data }, { on := 7, ground := Ground.chain }], guard := none }) rfl (fun K hK => ?_) AllReadyH.nil
    go_simp
    refine (HRF.out oR cR w4 HD4.out.2 HC4.out.2).mono ?_
    rintro e w5 ⟨v2, Y, rfl, k1, k2, k3⟩
    have HD5 : Go.RowKit.Hid (Bx w5 s 25 [nm, pa, lo, .slice oa L cap] ∧ Below w.heap.size w w5) := Lib.hid ⟨HD4.out.1.below k1 HD4.out.1.lt, HD4.out.2.trans (k1.mono HD4.out.2.size)⟩
    have hS : w5.cell? ⟨s, 0, none⟩ = some nm ∧ w5.cell? ⟨s, 1, none⟩ = some pa ∧ w5.cell? ⟨s, 2, none⟩ = some lo ∧ w5.cell? ⟨s, 3, none⟩ = some (.slice oa L cap) := by
      have h := HD5.out.1
      exact ⟨by simpa using h.cell 0, by simpa using h.cell 1, by simpa using h.cell 2, by simpa using h.cell 3⟩
    refine hK.out _ _ hS (fun hHeld => ?_)
    clear hK K hS
    have HY := Lib.hid (And.intro k1 (And.intro k2 k3))
    clear k1 k2 k3
    have HSAME : Go.RowKit.Hid (∀ W, Below w.heap.size w W → W = w5 → Calls Try.prog 12 #[v1, v2] W fun e w' => e = .returned (.bool true) ∧ Below W.heap.size W w') := Lib.hid (fun W _ hW => by
      subst hW
      have hXY := HX.out.2.one HY.out.2.2
      have h1 : Rd3 W v1 X := (HX.out.1.below HC4.out.1).below HY.out.1
      have h2 : Rd3 W v2 X := by rw [hXY]; exact HY.out.2.1
      exact rSame_any v1 v2 X W h1 h2 (HX.out.2.small HS.out.1))
    (try simp only [Act.put, List.setIfInBounds_toArray, List.set_cons_zero, List.set_cons_succ])
    refine wpAnyH_ready (rs := [9]) (by kernel_rfl) (by simp) ?_
    refine AllReadyH.cons (o := { dst := some 28, op := Op.call { callee := Callee.value (Operand.func 12), args := #[Operand.tmp 22, Operand.tmp 27], argTypes := #[31, 31] }, type := 4, pos := "law.go:75", after := #[{ on := 3, ground := Ground.data }, { on := 8, ground := Ground.data }, { on := 8, ground := Ground.chain }], guard := none }) rfl (fun K hK => ?_) AllReadyH.nil
    go_simp
    refine (HSAME.out _ HD5.out.2 rfl).mono ?_
    rintro e w6 ⟨rfl, k1⟩
    have HD6 : Go.RowKit.Hid (Bx w6 s 25 [nm, pa, lo, .slice oa L cap] ∧ Below w.heap.size w w6) := Lib.hid ⟨HD5.out.1.below k1 HD5.out.1.lt, HD5.out.2.trans (k1.mono HD5.out.2.size)⟩
    have hS : w6.cell? ⟨s, 0, none⟩ = some nm ∧ w6.cell? ⟨s, 1, none⟩ = some pa ∧ w6.cell? ⟨s, 2, none⟩ = some lo ∧ w6.cell? ⟨s, 3, none⟩ = some (.slice oa L cap) := by
      have h := HD6.out.1
      exact ⟨by simpa using h.cell 0, by simpa using h.cell 1, by simpa using h.cell 2, by simpa using h.cell 3⟩
    refine hK.out _ _ hS (fun hHeld => ?_)
    clear hK K hS
    clear k1
    (try simp only [Act.put, List.setIfInBounds_toArray, List.set_cons_zero, List.set_cons_succ])
    refine wpAnyH_take (i := 10) (oi := { dst := some 9, op := Op.assign (Operand.tmp 28), type := 4, pos := "law.go:75", after := #[{ on := 9, ground := Ground.data }, { on := 9, ground := Ground.chain }, { on := 0, ground := Ground.phase }, { on := 1, ground := Ground.phase }, { on := 2, ground := Ground.phase }, { on := 3, ground := Ground.phase }, { on := 4, ground := Ground.phase }, { on := 5, ground := Ground.phase }, { on := 6, ground := Ground.phase }, { on := 7, ground := Ground.phase }, { on := 8, ground := Ground.phase }, { on := 9, ground := Ground.phase }], guard := none }) (v := ?vq10_18) rfl (by kernel_rfl) (by kernel_rfl) (by kernel_rfl) (fun _ _ _ h => h) (Or.inl ⟨by rfl, ?hq10_18⟩) (by assumption) ?_
    case hq10_18 => intro w hSw; (try dsimp only at hSw); go_simp; try (with_reducible rfl)
    (try simp only [Act.put, List.setIfInBounds_toArray, List.set_cons_zero, List.set_cons_succ])
    refine wpAnyH_done (by kernel_rfl) ?_ _
    go_wp2
    go_ret
    exact ⟨rfl, HD6.out.2⟩
end Go.Proofs.Ytfpdecjlfnambaa
