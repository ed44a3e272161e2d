/-
  GraphMore's walk. Conditions: the arguments lie in the heap.
-/
import Derived.Test.YthfdomgkmfcolaaGLawW
import Derived.Lib.MinMax
namespace Go.Proofs.Ythfdomgkmfcolaa
open Go Go.RowKit

/-- Both that start. -/
def boF (st mo : List Bool) (k : Nat) : List Bool := (List.range k).map fun i => st[i]?.getD false || mo[i]?.getD false
theorem boF_len (st mo : List Bool) (k : Nat) : (boF st mo k).length = k := by simp [boF]
theorem boF_succ (st mo : List Bool) (k : Nat) : boF st mo (k + 1) = boF st mo k ++ [st[k]?.getD false || mo[k]?.getD false] := by simp [boF, List.range_succ]
theorem boF_get {st mo : List Bool} {k j : Nat} (hk : st.length ≤ k) (h : st[j]?.getD false = true) : (boF st mo k)[j]?.getD false = true := by
  have hj : j < st.length := Nat.lt_of_not_le fun hn => by
    rw [List.getElem?_eq_none hn] at h
    cases h
  rw [boF, List.getElem?_map, List.getElem?_range (by omega)]
  simp [h]

set_option maxRecDepth 100000 in
set_option maxHeartbeats 8000000 in
theorem graphMore_walk (B : Bv) (ni : Int) (oS : Option Addr) (capS : Nat) (st : List Bool) (oM : Option Addr) (capM : Nat) (mo : List Bool) (oc : Option Addr) (capC : Nat) (C : List Chg) (every : Bool) (w : World)
    (hB : B.At w.heap.size w) (hgl : B.g.length ≤ maxLen) (hS : BSrc w.heap.size w oS st) (hsl : st.length ≤ maxLen) (hM : BSrc w.heap.size w oM mo) (hml : mo.length ≤ maxLen) (hC : CRow w.heap.size w oc C) (hcl : C.length ≤ maxLen) :
    Calls Try.prog 7 #[B.v, .int .i64 ni, .slice oS st.length capS, .slice oM mo.length capM, .slice oc C.length capC, .bool every] w fun e w' => e = .returned (.bool true) ∧ Below w.heap.size w w' := by
  obtain ⟨nm, pa, lo, oa, cap, g⟩ := B
  simp only at hgl ⊢
  obtain ⟨L, hL⟩ : ∃ L, L = g.length := ⟨_, rfl⟩
  obtain ⟨nS, hnS⟩ : ∃ k, k = st.length := ⟨_, rfl⟩
  obtain ⟨nM, hnM⟩ : ∃ k, k = mo.length := ⟨_, rfl⟩
  obtain ⟨nC, hnC⟩ : ∃ k, k = C.length := ⟨_, rfl⟩
  unfold maxLen at hgl hsl hml hcl
  have HA := Lib.hid (And.intro hB (And.intro hS (And.intro hM (And.intro hC (And.intro hL (And.intro hnS (And.intro hnM hnC)))))))
  have bS : nS ≤ 9223372036854775807 := by omega
  have bM : nM ≤ 9223372036854775807 := by omega
  rw [← hnS, ← hnM, ← hnC]
  unfold Bv.v Bv.cs
  simp only [← hL]
  clear hB hS hM hC hL hnS hnM hnC hgl hsl hml hcl
  go_enter Try.func7, Try.ntmps7
  go_upto_region 1 with fail
  obtain ⟨wa, hwa⟩ : ∃ wa, wa = w.alloc (.cells #[nm, pa, lo, .slice oa L cap] 25) := ⟨_, rfl⟩
  obtain ⟨s, hs⟩ : ∃ s, s = w.heap.size := ⟨_, rfl⟩
  rw [← hwa, ← hs]
  have hxa : Bx wa s 25 [nm, pa, lo, .slice oa L cap] := by
    rw [hwa, hs]
    exact Bx.new w _ [nm, pa, lo, .slice oa L cap]
  have hba : Below w.heap.size w wa := by
    rw [hwa]
    exact (Below.refl _ _).alloc (Nat.le_refl _) _
  have HW := Lib.hid (And.intro hxa (And.intro hba hs))
  clear hxa hba hs hwa
  have HOV : Go.RowKit.Hid (∀ W, Below w.heap.size w W → Calls Try.prog 11 #[.agg #[nm, pa, lo, .slice oa L cap], .int .i64 ni, .slice oc nC capC] W fun e w' => OverT g ni C W e w') := Lib.hid (fun W hb => by
    obtain ⟨hB, hS, hM, hC, hL, hnS, hnM, hnC⟩ := HA.out
    have h := over_any w.heap.size ⟨nm, pa, lo, oa, cap, g⟩ ni oc capC C W (hB.below hb (Nat.le_refl _)) (hC.below hb (Nat.le_refl _)) hb.size
    unfold Bv.v Bv.cs at h
    simp only [← hL, ← hnC] at h
    exact h)
  go_upto_region 4 with (go_at_call 10; refine (works_any _).mono ?_; rintro e w1 ⟨rfl, h1⟩; have hx1 := HW.out.1.below h1 HW.out.1.lt; have e0 := hx1.cell 0; have e1 := hx1.cell 1; have e2 := hx1.cell 2; have e3 := hx1.cell 3; have H1 := Lib.hid (And.intro hx1 (HW.out.2.1.trans (h1.mono HW.out.2.1.size))); simp at e0 e1 e2 e3; clear h1 hx1)
  go_upto_region 5 with (go_at_call 11; refine (HOV.out _ H1.out.2).mono ?_; clear e0 e1 e2 e3; rintro e w2 ⟨h2, o, rfl, ho⟩)
  have hx2 := H1.out.1.below h2 H1.out.1.lt
  have e0 := hx2.cell 0
  have e1 := hx2.cell 1
  have e2 := hx2.cell 2
  have e3 := hx2.cell 3
  simp at e0 e1 e2 e3
  have H2 := Lib.hid (And.intro hx2 (And.intro (H1.out.2.trans (h2.mono H1.out.2.size)) ho))
  clear h2 hx2 ho HOV
  cases o with
  | true =>
    go_wp2
    go_ret
    exact ⟨rfl, H2.out.2.1⟩
  | false =>
    by_cases c1 : 30 < nS
    · go_wp2
      go_ret
      exact ⟨rfl, H2.out.2.1⟩
    by_cases c2 : 30 < nM
    · go_wp2
      go_ret
      exact ⟨rfl, H2.out.2.1⟩
    have cS : nS ≤ 30 := by omega
    have cM : nM ≤ 30 := by omega
    clear bS bM
    go_upto_region 8 with fail
    clear c1 c2
    have hsm := small_of (B := ⟨nm, pa, lo, oa, cap, g⟩) (H2.out.2.2 rfl)
    have HS := Lib.hid hsm
    clear hsm e0 e1 e2 e3
    obtain ⟨i3, hi3, hz3, hs3, hb3⟩ := info_parts infoBool
    have HI3 := Lib.hid (And.intro hi3 (And.intro hz3 (And.intro hs3 hb3)))
    clear hi3 hz3 hs3 hb3
    obtain ⟨N, hN⟩ : ∃ N, N = max nS nM := ⟨_, rfl⟩
    have hN1 : nS ≤ N := by omega
    have hN2 : nM ≤ N := by omega
    have hN3 : N ≤ 30 := by omega
    have hN4 : ¬ nS < N ∨ ¬ nM < N := by omega
    have HN := Lib.hid hN
    have hmx : max (nS : Int) (nM : Int) = (N : Int) := by omega
    clear hN
    go_wp2
    go_loopw [15, 16] (fun v i wr => ∃ k : Nat, k ≤ N ∧ i = .int .i64 k ∧ wr.ownsRow w2.heap.size 4 1 v (boF st mo k).length (bC (boF st mo k)) ∧ Below w2.heap.size w2 wr)
      (fun _ i _ => N - (intOf i).toNat)
    case atStart => exact ⟨0, Nat.zero_le _, rfl, World.ownsRow_nil _ _ _ _, Below.refl _ _⟩
    case round =>
      obtain ⟨k, hk, rfl, hown, hbr⟩ := hrel
      have HR := Lib.hid (And.intro hown hbr)
      clear hown hbr
      by_cases hlt : k < N
      · obtain ⟨hB, hS, hM, hC, hL, hnS, hnM, hnC⟩ := HA.out
        have hbw := H2.out.2.1.trans (HR.out.2.mono H2.out.2.1.size)
        have qS := hS.below hbw (Nat.le_refl _)
        have qM := hM.below hbw (Nat.le_refl _)
        have mS : ∀ j, ¬ j < nS → st[j]?.getD false = false := fun j hj => by rw [List.getElem?_eq_none (by omega)]; rfl
        have mM : ∀ j, ¬ j < nM → mo[j]?.getD false = false := fun j hj => by rw [List.getElem?_eq_none (by omega)]; rfl
        have HF := Lib.hid (And.intro qM (And.intro mS (And.intro mM hnM)))
        by_cases h1 : k < nS
        · obtain ⟨bS, fS, rfl, -, cS1⟩ := qS (by omega)
          have cSk := cS1 k (by omega)
          obtain ⟨x, hx⟩ : ∃ x, x = st[k]?.getD false := ⟨_, rfl⟩
          rw [← hx] at cSk
          have HX := Lib.hid hx
          clear hB hS hM hC hL hnS hnM hnC hbw qS qM mS mM cS1 hx
          cases x with
          | true =>
            go_wp2_with (at_builtin; refine wpList_append_own_at _ rfl (.tmp 50) (.tmp 73) 26 rfl w2.heap.size 4 i3 _ 1 1 Try.underlying26 HI3.out.1 HI3.out.2.1 HI3.out.2.2.1 HI3.out.2.2.2 rfl (by decide) _ _ _ rfl (HR.out.1.alloc _) ⟨_, 0, none⟩ 1 1 [.bool true] rfl rfl ?c1 ?c2 ?c3 ?c4 ?c5 ?_)
            case c1 => exact new_cells _ [.bool true] _
            case c2 => intro u hu; simp at hu; subst hu; rfl
            case c3 => rw [boF_len]; unfold maxLen; omega
            case c4 => rw [boF_len]; omega
            case c5 => have := HR.out.2.size; simp; omega
            intro v' w5 hown hg _ _
            have HP := Lib.hid (And.intro hown hg)
            clear hown hg
            go_wp2
            go_roundw
            case rel =>
              obtain ⟨hown, hg⟩ := HP.out
              have hst : (st[k]?.getD false || mo[k]?.getD false) = true := by
                rw [← HX.out]; rfl
              refine ⟨k + 1, by omega, by simp, ?_, (HR.out.2.alloc HR.out.2.size _).grown hg (by have := HR.out.2.size; simp; omega) (fun q hq => (own_lt HR.out.1 hq).2)⟩
              rw [boF_succ, hst, List.length_append, bC, List.map_append]
              exact hown
            case measure => simp [intOf]; omega
          | false =>
            by_cases h2 : k < nM
            · obtain ⟨qM, mS, mM, hnM⟩ := HF.out
              obtain ⟨bM, fM, rfl, -, cM1⟩ := qM (by omega)
              have cMk := cM1 k (by omega)
              obtain ⟨y, hy⟩ : ∃ y, y = mo[k]?.getD false := ⟨_, rfl⟩
              rw [← hy] at cMk
              have HY := Lib.hid hy
              clear qM mS mM hnM cM1 hy
              go_wp2_with (at_builtin; refine wpList_append_own_at _ rfl (.tmp 50) (.tmp 73) 26 rfl w2.heap.size 4 i3 _ 1 1 Try.underlying26 HI3.out.1 HI3.out.2.1 HI3.out.2.2.1 HI3.out.2.2.2 rfl (by decide) _ _ _ rfl (HR.out.1.alloc _) ⟨_, 0, none⟩ 1 1 [.bool y] rfl rfl ?c1 ?c2 ?c3 ?c4 ?c5 ?_)
              case c1 => exact new_cells _ [.bool y] _
              case c2 => intro u hu; simp at hu; subst hu; rfl
              case c3 => rw [boF_len]; unfold maxLen; omega
              case c4 => rw [boF_len]; omega
              case c5 => have := HR.out.2.size; simp; omega
              intro v' w5 hown hg _ _
              have HP := Lib.hid (And.intro hown hg)
              clear hown hg
              go_wp2
              go_roundw
              case rel =>
                obtain ⟨hown, hg⟩ := HP.out
                have hst : (st[k]?.getD false || mo[k]?.getD false) = y := by
                  rw [← HX.out, ← HY.out]; rfl
                refine ⟨k + 1, by omega, by simp, ?_, (HR.out.2.alloc HR.out.2.size _).grown hg (by have := HR.out.2.size; simp; omega) (fun q hq => (own_lt HR.out.1 hq).2)⟩
                rw [boF_succ, hst, List.length_append, bC, List.map_append]
                exact hown
              case measure => simp [intOf]; omega
            · clear hN4
              go_wp2_with (at_builtin; refine wpList_append_own_at _ rfl (.tmp 50) (.tmp 73) 26 rfl w2.heap.size 4 i3 _ 1 1 Try.underlying26 HI3.out.1 HI3.out.2.1 HI3.out.2.2.1 HI3.out.2.2.2 rfl (by decide) _ _ _ rfl (HR.out.1.alloc _) ⟨_, 0, none⟩ 1 1 [.bool false] rfl rfl ?c1 ?c2 ?c3 ?c4 ?c5 ?_)
              case c1 => exact new_cells _ [.bool false] _
              case c2 => intro u hu; simp at hu; subst hu; rfl
              case c3 => rw [boF_len]; unfold maxLen; omega
              case c4 => rw [boF_len]; omega
              case c5 => have := HR.out.2.size; simp; omega
              intro v' w5 hown hg _ _
              have HP := Lib.hid (And.intro hown hg)
              clear hown hg
              go_wp2
              go_roundw
              case rel =>
                obtain ⟨hown, hg⟩ := HP.out
                have hst : (st[k]?.getD false || mo[k]?.getD false) = false := by
                  rw [← HX.out, HF.out.2.2.1 k h2]; rfl
                refine ⟨k + 1, by omega, by simp, ?_, (HR.out.2.alloc HR.out.2.size _).grown hg (by have := HR.out.2.size; simp; omega) (fun q hq => (own_lt HR.out.1 hq).2)⟩
                rw [boF_succ, hst, List.length_append, bC, List.map_append]
                exact hown
              case measure => simp [intOf]; omega
        · by_cases h2 : k < nM
          · obtain ⟨bM, fM, rfl, -, cM1⟩ := qM (by omega)
            have cMk := cM1 k (by omega)
            obtain ⟨y, hy⟩ : ∃ y, y = mo[k]?.getD false := ⟨_, rfl⟩
            rw [← hy] at cMk
            have HY := Lib.hid hy
            clear hB hS hM hC hL hnS hnM hnC hbw qS qM mS mM cM1 hy
            go_wp2_with (at_builtin; refine wpList_append_own_at _ rfl (.tmp 50) (.tmp 73) 26 rfl w2.heap.size 4 i3 _ 1 1 Try.underlying26 HI3.out.1 HI3.out.2.1 HI3.out.2.2.1 HI3.out.2.2.2 rfl (by decide) _ _ _ rfl (HR.out.1.alloc _) ⟨_, 0, none⟩ 1 1 [.bool y] rfl rfl ?c1 ?c2 ?c3 ?c4 ?c5 ?_)
            case c1 => exact new_cells _ [.bool y] _
            case c2 => intro u hu; simp at hu; subst hu; rfl
            case c3 => rw [boF_len]; unfold maxLen; omega
            case c4 => rw [boF_len]; omega
            case c5 => have := HR.out.2.size; simp; omega
            intro v' w5 hown hg _ _
            have HP := Lib.hid (And.intro hown hg)
            clear hown hg
            go_wp2
            go_roundw
            case rel =>
              obtain ⟨hown, hg⟩ := HP.out
              have hst : (st[k]?.getD false || mo[k]?.getD false) = y := by
                rw [HF.out.2.1 k h1, ← HY.out]; rfl
              refine ⟨k + 1, by omega, by simp, ?_, (HR.out.2.alloc HR.out.2.size _).grown hg (by have := HR.out.2.size; simp; omega) (fun q hq => (own_lt HR.out.1 hq).2)⟩
              rw [boF_succ, hst, List.length_append, bC, List.map_append]
              exact hown
            case measure => simp [intOf]; omega
          · omega
      · obtain rfl : k = N := by omega
        clear hN1 hN2 hN4
        go_upto_region 12 with fail
        clear hmx
        have hown := HR.out.1
        obtain ⟨oB, cB, hv15, hsrc⟩ := own_src hown (Nat.le_refl _)
        rw [boF_len] at hv15
        subst hv15
        obtain ⟨hB, hS, hM, hC, hL, hnS, hnM, hnC⟩ := HA.out
        have hbw := H2.out.2.1.trans (HR.out.2.mono H2.out.2.1.size)
        have hxr := H2.out.1.below HR.out.2 H2.out.1.lt
        have e0 := hxr.cell 0
        have e1 := hxr.cell 1
        have e2 := hxr.cell 2
        have e3 := hxr.cell 3
        simp at e0 e1 e2 e3
        have HFL : Go.RowKit.Hid (Calls Try.prog 13 #[.agg #[nm, pa, lo, .slice oa L cap], .int .i64 ni, .slice oS nS capS, .slice oc nC capC, .bool every] wr fun e w' => FlowZ g ni.toNat C st every wr e w') := Lib.hid (by
          have h := flowZ_any wr.heap.size ⟨nm, pa, lo, oa, cap, g⟩ ni oS capS st oc capC C every wr ((hB.below hbw (Nat.le_refl _)).mono hbw.size) HS.out.1 ((hS.below hbw (Nat.le_refl _)).mono hbw.size) ((hC.below hbw (Nat.le_refl _)).mono hbw.size) HS.out.2.1 HS.out.2.2 (by omega) (Nat.le_refl _)
          unfold Bv.v Bv.cs at h
          simp only [← hL, ← hnS, ← hnC] at h
          exact h)
        have HO := Lib.hid (And.intro hbw (And.intro hxr hsrc))
        clear hown hsrc hB hS hM hC hL hnS hnM hnC hbw hxr
        go_upto_region 13 with (go_at_call 13; refine HFL.out.mono ?_; clear e0 e1 e2 e3; rintro e w6 ⟨v1, X, rfl, k1, k2, k3⟩)
        obtain ⟨hB, hS, hM, hC, hL, hnS, hnM, hnC⟩ := HA.out
        obtain ⟨hbw, hxr, hsrc⟩ := HO.out
        have hxs := hxr.below k1 hxr.lt
        have e0 := hxs.cell 0
        have e1 := hxs.cell 1
        have e2 := hxs.cell 2
        have e3 := hxs.cell 3
        simp at e0 e1 e2 e3
        have hbw6 := hbw.trans (k1.mono hbw.size)
        have HFM : Go.RowKit.Hid (Calls Try.prog 13 #[.agg #[nm, pa, lo, .slice oa L cap], .int .i64 ni, .slice oB k cB, .slice oc nC capC, .bool every] w6 fun e w' => FlowZ g ni.toNat C (boF st mo k) every w6 e w') := Lib.hid (by
          have h := flowZ_any w6.heap.size ⟨nm, pa, lo, oa, cap, g⟩ ni oB cB (boF st mo k) oc capC C every w6 ((hB.below hbw6 (Nat.le_refl _)).mono hbw6.size) HS.out.1 ((hsrc.below k1 (Nat.le_refl _)).mono k1.size) ((hC.below hbw6 (Nat.le_refl _)).mono hbw6.size) HS.out.2.1 HS.out.2.2 (by rw [boF_len]; omega) (Nat.le_refl _)
          unfold Bv.v Bv.cs at h
          simp only [← hL, ← hnC, boF_len] at h
          exact h)
        have hXl : X.length = L := by rw [k3.len, hL]
        obtain ⟨oX, capX, hv1⟩ := k2.form
        rw [hXl] at hv1
        subst hv1
        have HX := Lib.hid (And.intro k2 (And.intro k3 (And.intro hXl (And.intro hbw6 hxs))))
        clear k1 k2 k3 hXl hB hS hM hC hL hnS hnM hnC hbw hxr hsrc hxs hbw6 HFL HO
        go_upto_region 14 with (go_at_call 13; refine HFM.out.mono ?_; clear e0 e1 e2 e3; rintro e w7 ⟨v2, Y, rfl, k1, k2, k3⟩)
        obtain ⟨x1, x2, x3, x4, x5⟩ := HX.out
        have hL := HA.out.2.2.2.2.1
        have hYl : Y.length = L := by rw [k3.len, hL]
        obtain ⟨oY, capY, hv2⟩ := k2.form
        rw [hYl] at hv2
        subst hv2
        have hb7 := x4.trans (k1.mono x4.size)
        have hmore : ∀ i q j, Rch g i → q < insR g i + 2 → j < ni.toNat → valZ X i q j = true → valZ Y i q j = true := more_plain x2 k3 (fun j hj => boF_get (by have := HA.out.2.2.2.2.2.1; have := HN.out; omega) hj)
        have HZ := Lib.hid (And.intro (x1.below k1) (And.intro k2 (And.intro x2 (And.intro k3 (And.intro x3 (And.intro hYl (And.intro hb7 (And.intro hmore hL))))))))
        have hL1 : L ≤ 1000 := by
          have := HS.out.1.1
          simp only at this
          omega
        have hn1 : ni.toNat ≤ 1000 := HS.out.2.2
        obtain ⟨n, hn⟩ : ∃ n, n = ni.toNat := ⟨_, rfl⟩
        rw [← hn] at hn1
        have Hn := Lib.hid hn
        clear k1 k2 k3 hYl x1 x2 x3 x4 x5 hL hb7 hmore HX HFM hn
        go_wp2
        go_loopw [19] (fun u wr => ∃ i : Nat, i ≤ L ∧ u = .int .i64 i ∧ Below w7.heap.size w7 wr) (fun u _ => L - (intOf u).toNat)
        case atStart => exact ⟨0, Nat.zero_le _, rfl, Below.refl _ _⟩
        case round =>
          obtain ⟨i, hi, rfl, hbr⟩ := hrel
          obtain ⟨wo, rfl⟩ : ∃ wo : World, wo = wr := ⟨_, rfl⟩
          by_cases hlt : i < L
          · obtain ⟨hX, hY, fX, fY, hXl, hYl, hb7, hmore, hL⟩ := HZ.out
            obtain ⟨bX, pX, ou, cu, rfl, c1, r1⟩ := hX.row (i := i) (by omega)
            obtain ⟨bY, pY, ov, cv, rfl, c2, r2⟩ := hY.row (i := i) (by omega)
            obtain ⟨hlen, hrows, hle⟩ := fX.lens fY i (by omega)
            rw [← hlen] at c2 r2
            obtain ⟨m, hm⟩ : ∃ m, m = (rowZ X i).length := ⟨_, rfl⟩
            rw [← hm] at c1 r1 c2 r2
            have hm1 : m ≤ 1002 := by
              have := (HS.out.1.2 i).1
              simp only at this
              omega
            have d1 := below_cell hbr c1
            have d2 := below_cell hbr c2
            have HI := Lib.hid (And.intro c1 (And.intro r1 (And.intro c2 (And.intro r2 (And.intro hm (And.intro hrows (And.intro hbr hlen)))))))
            clear hX hY fX fY hXl hYl hb7 hmore hL c1 r1 c2 r2 hlen hrows hle hm hbr
            go_upto_region 19 with fail
            go_cut [108] (fun s108 wc => s108 = .bool false ∧ Below w7.heap.size w7 wc)
            case first =>
              go_region
              all_goals (go_wp2_with fail; go_meet; exact ⟨by simp, HI.out.2.2.2.2.2.2.1.drew⟩)
            case rest =>
              obtain ⟨hs108, hb19⟩ := hcut
              subst hs108
              have HB19 := Lib.hid hb19
              clear hb19
              go_wp2
              go_loopw [20] (fun u wr => ∃ q : Nat, q ≤ m ∧ u = .int .i64 q ∧ Below w7.heap.size w7 wr) (fun u _ => m - (intOf u).toNat)
              case atStart => exact ⟨0, Nat.zero_le _, rfl, HB19.out⟩
              case round =>
                obtain ⟨q, hq, rfl, hbq⟩ := hrel
                obtain ⟨wp, rfl⟩ : ∃ wp : World, wp = wr := ⟨_, rfl⟩
                by_cases hlq : q < m
                · obtain ⟨c1, r1, c2, r2, hm, hrows, hbr, hlen⟩ := HI.out
                  obtain ⟨hr, hq2, hl1, hl2⟩ := hrows q (by omega)
                  obtain ⟨bU, pU, ox, cx, rfl, c3, r3⟩ := r1.row (i := q) (by omega)
                  obtain ⟨bV, pV, oy, cy, rfl, c4, r4⟩ := r2.row (i := q) (by omega)
                  rw [show ((rowZ X i)[q]?.getD []).length = n by rw [Hn.out]; exact hl1] at c3 r3
                  rw [show ((rowZ Y i)[q]?.getD []).length = n by rw [Hn.out]; exact hl2] at c4 r4
                  have d1 := below_cell hbq c1
                  have d2 := below_cell hbq c2
                  have d3 := below_cell hbq c3
                  have d4 := below_cell hbq c4
                  have HQ := Lib.hid (And.intro c1 (And.intro c2 (And.intro c3 (And.intro c4 (And.intro r3 (And.intro r4 (And.intro hr (And.intro hq2 (And.intro hl1 (And.intro hl2 hbq))))))))))
                  clear c1 r1 c2 r2 hm hrows hbr hlen hr hq2 hl1 hl2 c3 r3 c4 r4 hbq
                  go_upto_region 24 with fail
                  go_cut [134] (fun s134 wc => s134 = .bool false ∧ Below w7.heap.size w7 wc)
                  case first =>
                    go_region
                    all_goals (go_wp2_with fail; go_meet; exact ⟨by simp, HQ.out.2.2.2.2.2.2.2.2.2.2.drew⟩)
                  case rest =>
                    obtain ⟨hs134, hb24⟩ := hcut
                    subst hs134
                    have HB24 := Lib.hid hb24
                    clear hb24
                    go_wp2
                    go_loopw [21] (fun u wr => ∃ j : Nat, j ≤ n ∧ u = .int .i64 j ∧ Below w7.heap.size w7 wr) (fun u _ => n - (intOf u).toNat)
                    case atStart => exact ⟨0, Nat.zero_le _, rfl, HB24.out⟩
                    case round =>
                      obtain ⟨j, hj, rfl, hbj⟩ := hrel
                      obtain ⟨wq, rfl⟩ : ∃ wq : World, wq = wr := ⟨_, rfl⟩
                      obtain ⟨c1, c2, c3, c4, r3, r4, hr, hq2, hl1, hl2, hbq⟩ := HQ.out
                      have d1 := below_cell hbj c1
                      have d2 := below_cell hbj c2
                      have d3 := below_cell hbj c3
                      have d4 := below_cell hbj c4
                      by_cases hlj : j < n
                      · obtain ⟨bA, pA, rfl, c5⟩ := r3.at (i := j) (by have := Hn.out; simp only [stateZ] at hl1; omega)
                        obtain ⟨bB, pB, rfl, c6⟩ := r4.at (i := j) (by have := Hn.out; simp only [stateZ] at hl2; omega)
                        have hxy := HZ.out.2.2.2.2.2.2.2.1 i q j hr hq2 (by have := Hn.out; omega)
                        have d5 := below_cell hbj c5
                        have d6 := below_cell hbj c6
                        obtain ⟨x, hx⟩ : ∃ x, x = ((rowZ X i)[q]?.getD [])[j]?.getD false := ⟨_, rfl⟩
                        obtain ⟨y, hy⟩ : ∃ y, y = ((rowZ Y i)[q]?.getD [])[j]?.getD false := ⟨_, rfl⟩
                        rw [← hx] at d5
                        rw [← hy] at d6
                        have hxy' : x = true → y = true := fun h => by
                          rw [hy]
                          exact hxy (by rw [hx] at h; exact h)
                        have HJ := Lib.hid hbj
                        clear c1 c2 c3 c4 r3 r4 hr hq2 hl1 hl2 hbq c5 c6 hxy hx hy hbj
                        cases x with
                        | true =>
                          have hyt := hxy' rfl
                          subst hyt
                          clear hxy'
                          go_upto_region 29 with fail
                          go_upto_region 28 with fail
                          go_wp2
                          go_roundw
                          case rel => first | exact ⟨j + 1, hlj, nxt _, HJ.out⟩ | ((repeat apply Exists.intro); exact ⟨⟨j + 1, hlj, nxt _, HJ.out⟩, rfl⟩)
                          case measure => exact meas hlj
                        | false =>
                          clear hxy'
                          go_upto_region 29 with fail
                          go_upto_region 28 with fail
                          go_wp2
                          go_roundw
                          case rel => first | exact ⟨j + 1, hlj, nxt _, HJ.out⟩ | ((repeat apply Exists.intro); exact ⟨⟨j + 1, hlj, nxt _, HJ.out⟩, rfl⟩)
                          case measure => exact meas hlj
                      · obtain rfl : j = n := last hj hlj
                        have HJ := Lib.hid hbj
                        clear c1 c2 c3 c4 r3 r4 hr hq2 hl1 hl2 hbq hbj
                        go_upto_region 23 with fail
                        go_wp2
                        go_roundw
                        case rel => first | exact ⟨q + 1, hlq, nxt _, HJ.out⟩ | ((repeat apply Exists.intro); exact ⟨⟨q + 1, hlq, nxt _, HJ.out⟩, rfl⟩)
                        case measure => exact meas hlq
                · obtain rfl : q = m := last hq hlq
                  obtain ⟨c1, r1, c2, r2, hm, hrows, hbr, hlen⟩ := HI.out
                  have d1 := below_cell hbq c1
                  have HJ := Lib.hid hbq
                  clear c1 r1 c2 r2 hm hrows hbr hlen hbq
                  go_upto_region 18 with fail
                  go_wp2
                  go_roundw
                  case rel => first | exact ⟨i + 1, hlt, nxt _, HJ.out⟩ | ((repeat apply Exists.intro); exact ⟨⟨i + 1, hlt, nxt _, HJ.out⟩, rfl⟩)
                  case measure => exact meas hlt
          · obtain rfl : i = L := last hi hlt
            have hb7 := HZ.out.2.2.2.2.2.2.1
            have hfin := hb7.trans (hbr.mono hb7.size)
            have HFI := Lib.hid hfin
            clear hfin hb7 hbr
            go_upto_region 31 with fail
            go_wp2
            go_ret
            exact ⟨rfl, HFI.out⟩
end Go.Proofs.Ythfdomgkmfcolaa
