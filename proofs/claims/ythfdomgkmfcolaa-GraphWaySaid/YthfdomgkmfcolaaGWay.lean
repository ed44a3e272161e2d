/-
  GraphWay's walk. Conditions: the arguments lie in the heap.
-/
import Derived.Test.YthfdomgkmfcolaaGBw
import Derived.Test.YthfdomgkmfcolaaGAfter
namespace Go.Proofs.Ythfdomgkmfcolaa
open Go Go.RowKit

theorem OwB.mono {n0 n1 n : Nat} {o : Option Addr} {st : List Bool} {w : World} (h : OwB n1 o n st w) (hn : n0 ≤ n1) : OwB n0 o n st w :=
  ⟨h.1, fun h0 => by
    obtain ⟨g, ex, h1, h2, h3⟩ := h.2 h0
    exact ⟨g, ex, h1, Nat.le_trans hn h2, h3⟩⟩
theorem OwB.below {n0 n : Nat} {o : Option Addr} {st : List Bool} {w w' : World} (h : OwB n0 o n st w) (hb : Below w.heap.size w w') : OwB n0 o n st w' :=
  ⟨h.1, fun h0 => by
    obtain ⟨g, ex, h1, h2, h3⟩ := h.2 h0
    exact ⟨g, ex, h1, h2, h3.below hb h3.lt⟩⟩

set_option maxRecDepth 100000 in
set_option maxHeartbeats 8000000 in
theorem graphWay_walk (B : Bv) (ni : Int) (oS : Option Addr) (capS : Nat) (st : List Bool) (oc : Option Addr) (capC : Nat) (C : List Chg) (vW : Value) (way : List Int) (w : World)
    (hB : B.At w.heap.size w) (hgl : B.g.length ≤ maxLen) (hS : BSrc w.heap.size w oS st) (hsl : st.length ≤ maxLen) (hC : CRow w.heap.size w oc C) (hcl : C.length ≤ maxLen) (hW : IRow w.heap.size w vW way) (hwl : way.length ≤ maxLen) (hww : ∀ z ∈ way, (Lit.int .i64 z).wf = true) :
    Calls Try.prog 6 #[B.v, .int .i64 ni, .slice oS st.length capS, .slice oc C.length capC, vW] w fun e w' => e = .returned (.bool true) ∧ Below w.heap.size w w' := by
  obtain ⟨nm, pa, lo, oa, cap, g⟩ := B
  simp only at hgl ⊢
  obtain ⟨L, hL⟩ : ∃ L, L = g.length := ⟨_, rfl⟩
  obtain ⟨nS, hnS⟩ : ∃ k, k = st.length := ⟨_, rfl⟩
  obtain ⟨kC, hnC⟩ : ∃ k, k = C.length := ⟨_, rfl⟩
  obtain ⟨oW, cW, rfl, hWc⟩ := hW
  obtain ⟨nW, hnW⟩ : ∃ k, k = way.length := ⟨_, rfl⟩
  unfold maxLen at hgl hsl hcl hwl
  have bW : nW ≤ 9223372036854775807 := by omega
  have bS : nS ≤ 9223372036854775807 := by omega
  have bL : L ≤ 9223372036854775807 := by omega
  rw [← hnS, ← hnC, ← hnW]
  rw [← hnW] at hWc
  have HA := Lib.hid (And.intro hB (And.intro hC (And.intro hL (And.intro hnC (And.intro hnW (And.intro hWc (And.intro hww (And.intro hS hnS))))))))
  unfold Bv.v Bv.cs
  simp only [← hL]
  clear hB hC hL hnC hnW hWc hww hgl hcl hwl hS hnS hsl
  go_enter Try.func6, Try.ntmps6
  go_upto_region 1 with fail
  obtain ⟨wa, hwa⟩ : ∃ wa, wa = w.alloc (.cells #[nm, pa, lo, .slice oa L cap] 25) := ⟨_, rfl⟩
  obtain ⟨s, hs⟩ : ∃ s, s = w.heap.size := ⟨_, rfl⟩
  rw [← hwa, ← hs]
  have hxa : Bx wa s 25 [nm, pa, lo, .slice oa L cap] := by
    rw [hwa, hs]
    exact Bx.new w _ [nm, pa, lo, .slice oa L cap]
  have hba : Below w.heap.size w wa := by
    rw [hwa]
    exact (Below.refl _ _).alloc (Nat.le_refl _) _
  have HW := Lib.hid (And.intro hxa (And.intro hba hs))
  clear hxa hba hs hwa
  have HOV : Go.RowKit.Hid (∀ W, Below w.heap.size w W → Calls Try.prog 11 #[.agg #[nm, pa, lo, .slice oa L cap], .int .i64 ni, .slice oc kC capC] W fun e w' => OverT g ni C W e w') := Lib.hid (fun W hb => by
    obtain ⟨hB, hC, hL, hnC, -⟩ := HA.out
    have h := over_any w.heap.size ⟨nm, pa, lo, oa, cap, g⟩ ni oc capC C W (hB.below hb (Nat.le_refl _)) (hC.below hb (Nat.le_refl _)) hb.size
    unfold Bv.v Bv.cs at h
    simp only [← hL, ← hnC] at h
    exact h)
  go_upto_region 4 with (go_at_call 10; refine (works_any _).mono ?_; rintro e w1 ⟨rfl, h1⟩; have hx1 := HW.out.1.below h1 HW.out.1.lt; have e0 := hx1.cell 0; have e1 := hx1.cell 1; have e2 := hx1.cell 2; have e3 := hx1.cell 3; have H1 := Lib.hid (And.intro hx1 (HW.out.2.1.trans (h1.mono HW.out.2.1.size))); simp at e0 e1 e2 e3; clear h1 hx1)
  go_upto_region 5 with (go_at_call 11; refine (HOV.out _ H1.out.2).mono ?_; clear e0 e1 e2 e3; rintro e w2 ⟨h2, o, rfl, ho⟩)
  have hx2 := H1.out.1.below h2 H1.out.1.lt
  have e0 := hx2.cell 0
  have e1 := hx2.cell 1
  have e2 := hx2.cell 2
  have e3 := hx2.cell 3
  simp at e0 e1 e2 e3
  have H2 := Lib.hid (And.intro hx2 (And.intro (H1.out.2.trans (h2.mono H1.out.2.size)) ho))
  clear h2 hx2 ho HOV
  cases o with
  | true =>
    go_wp2
    go_ret
    exact ⟨rfl, H2.out.2.1⟩
  | false =>
    by_cases c0 : 30 < nS
    · go_wp2
      go_ret
      exact ⟨rfl, H2.out.2.1⟩
    by_cases c1 : 30 < nW
    · go_wp2
      go_ret
      exact ⟨rfl, H2.out.2.1⟩
    by_cases c2 : L = 0
    · subst c2
      go_wp2
      go_ret
      exact ⟨rfl, H2.out.2.1⟩
    by_cases c3 : ni < 0
    · go_wp2
      go_ret
      exact ⟨rfl, H2.out.2.1⟩
    have hsm := small_of (B := ⟨nm, pa, lo, oa, cap, g⟩) (H2.out.2.2 rfl)
    have hb30 := H2.out.2.2 rfl
    have HS := Lib.hid (And.intro hsm hb30)
    have hn30 : ni ≤ 30 := hb30.2.1
    have hL30 : L ≤ 30 := by rw [HA.out.2.2.1]; exact hb30.1
    have hL0 : 0 < L := by omega
    obtain ⟨n, rfl⟩ : ∃ n : Nat, ni = n := ⟨ni.toNat, by omega⟩
    have hn1 : n ≤ 30 := by omega
    have hW30 : nW ≤ 30 := by omega
    have hS30 : nS ≤ 30 := by omega
    clear hsm hb30 bW bL bS hn30
    have cL : ((L : Int) == 0) = false := by simp; omega
    go_upto_region 7 with fail
    clear c0 c1 c2 c3 cL
    have HFL : Go.RowKit.Hid (Calls Try.prog 13 #[.agg #[nm, pa, lo, .slice oa L cap], .int .i64 n, .slice oS nS capS, .slice oc kC capC, .bool false] w2 fun e w' => FlowZ g n C st false w2 e w') := Lib.hid (by
      obtain ⟨hB, hC, hL, hnC, -, -, -, hS, hnS⟩ := HA.out
      have hbw := H2.out.2.1
      have h := flowZ_any w.heap.size ⟨nm, pa, lo, oa, cap, g⟩ n oS capS st oc capC C false w2 (hB.below hbw (Nat.le_refl _)) HS.out.1.1 (hS.below hbw (Nat.le_refl _)) (hC.below hbw (Nat.le_refl _)) HS.out.1.2.1 HS.out.1.2.2 (by omega) hbw.size
      unfold Bv.v Bv.cs at h
      simp only [← hL, ← hnC, ← hnS, Int.toNat_natCast] at h
      exact h)
    go_upto_region 8 with (go_at_call 13; refine HFL.out.mono ?_; clear HFL e0 e1 e2 e3; rintro e w3 ⟨v1, X, rfl, k1, k2, k3⟩)
    have hXl : X.length = L := by rw [k3.len, HA.out.2.2.1]
    obtain ⟨oX, capX, hv1⟩ := k2.form
    rw [hXl] at hv1
    subst hv1
    have hb3 : Below w.heap.size w w3 := H2.out.2.1.trans (k1.mono H2.out.2.1.size)
    have hx3 := H2.out.1.below k1 H2.out.1.lt
    have e0 := hx3.cell 0
    have e1 := hx3.cell 1
    have e2 := hx3.cell 2
    have e3 := hx3.cell 3
    simp at e0 e1 e2 e3
    have HX := Lib.hid (And.intro k2 (And.intro k3 (And.intro hXl (And.intro hx3 hb3))))
    clear k1 k2 k3 hXl hb3 hx3
    have HFA : Go.RowKit.Hid (Calls Try.prog 13 #[.agg #[nm, pa, lo, .slice oa L cap], .int .i64 n, .slice oS nS capS, .slice oc kC capC, .bool true] w3 fun e w' => FlowZ g n C st true w3 e w') := Lib.hid (by
      obtain ⟨hB, hC, hL, hnC, -, -, -, hS, hnS⟩ := HA.out
      have hbw := HX.out.2.2.2.2
      have h := flowZ_any w.heap.size ⟨nm, pa, lo, oa, cap, g⟩ n oS capS st oc capC C true w3 (hB.below hbw (Nat.le_refl _)) HS.out.1.1 (hS.below hbw (Nat.le_refl _)) (hC.below hbw (Nat.le_refl _)) HS.out.1.2.1 HS.out.1.2.2 (by omega) hbw.size
      unfold Bv.v Bv.cs at h
      simp only [← hL, ← hnC, ← hnS, Int.toNat_natCast] at h
      exact h)
    go_upto_region 9 with (go_at_call 13; refine HFA.out.mono ?_; clear HFA e0 e1 e2 e3; rintro e w4 ⟨v2, Y, rfl, k1, k2, k3⟩)
    have hYl : Y.length = L := by rw [k3.len, HA.out.2.2.1]
    obtain ⟨oY, capY, hv2⟩ := k2.form
    rw [hYl] at hv2
    subst hv2
    have HY := Lib.hid (And.intro (HX.out.1.below k1) (And.intro k2 (And.intro k3 (And.intro hYl (And.intro (HX.out.2.2.2.1.below k1 HX.out.2.2.2.1.lt) (HX.out.2.2.2.2.trans (k1.mono HX.out.2.2.2.2.size)))))))
    clear k1 k2 k3 hYl
    have hmk := make_bools n (by omega) w4
    go_upto_region 10 with fail
    clear hmk
    obtain ⟨w5, hw5⟩ : ∃ w5, w5 = w4.alloc (.cells (Array.replicate n (.bool false)) 4) := ⟨_, rfl⟩
    obtain ⟨nb, hnb⟩ : ∃ nb, nb = w4.heap.size := ⟨_, rfl⟩
    rw [← hw5, ← hnb]
    have HN : Go.RowKit.Hid (Bx w5 nb 4 (bC (List.replicate n false)) ∧ Below w4.heap.size w4 w5 ∧ w4.heap.size ≤ nb) := Lib.hid (by
      rw [hw5, hnb]
      have h9 := Bx.new w4 4 (bC (List.replicate n false))
      simp only [bC, List.map_replicate, List.toArray_replicate] at h9
      exact ⟨by simpa [bC] using h9, (Below.refl _ _).alloc (Nat.le_refl _) _, Nat.le_refl _⟩)
    clear hw5 hnb
    go_wp2
    go_loopw [16] (fun ui wr => ∃ (i : Nat) (cur : List Bool), i ≤ n ∧ ui = .int .i64 i ∧ cur.length = n ∧ (∀ j, j < n → cur[j]?.getD false = (decide (j < i) && st[j]?.getD false)) ∧ Bx wr nb 4 (bC cur) ∧ Below w4.heap.size w4 wr) (fun ui _ => n - (intOf ui).toNat)
    case atStart =>
      refine ⟨0, List.replicate n false, Nat.zero_le _, rfl, by simp, fun j hj => ?_, HN.out.1, HN.out.2.1⟩
      rw [List.getElem?_replicate_of_lt hj]
      simp
    case round =>
      obtain ⟨i, cur, hi, rfl, hcl, hcj, hbx, hbr⟩ := hrel
      have HC := Lib.hid (And.intro hcl (And.intro hcj (And.intro hbx hbr)))
      by_cases hgo : i < n ∧ i < nS
      · obtain ⟨hin, his⟩ := hgo
        obtain ⟨-, -, -, -, -, -, -, hS, hnS⟩ := HA.out
        have hbw := HY.out.2.2.2.2.2.trans (hbr.mono HY.out.2.2.2.2.2.size)
        obtain ⟨bS, fS, rfl, -, cS⟩ := hS.below hbw (Nat.le_refl _) (by omega)
        have c9 := cS i (by omega)
        obtain ⟨x, hx⟩ : ∃ x, x = st[i]?.getD false := ⟨_, rfl⟩
        rw [← hx] at c9
        have hcy := hbx.cell i
        rw [bC_get (by omega)] at hcy
        have hfy := hbx.frozen i
        have HX9 := Lib.hid hx
        clear hS hnS hbw cS hx hcl hcj hbx hbr
        go_wp2
        go_roundw
        case rel =>
          obtain ⟨hcl, hcj, hbx, hbr⟩ := HC.out
          have h1 := hbx.set i (.bool x)
          rw [bC_set] at h1
          refine ⟨i + 1, cur.set i x, by omega, nxt _, by simp [hcl], fun j hj => ?_, h1, hbr.setCell (p := ⟨nb, i, none⟩) HN.out.2.2 _⟩
          by_cases e : i = j
          · subst e
            rw [List.getElem?_set_self (by omega), HX9.out]
            simp
          · rw [List.getElem?_set_ne e, hcj j hj]
            congr 1
            simp
            omega
        case measure => exact meas hin
      · have HE : Go.RowKit.Hid (∃ now, OwB w4.heap.size (some ⟨nb, 0, none⟩) n now wr ∧ Below w4.heap.size w4 wr ∧ Way g n X Y 0 0 now) := Lib.hid (by
          obtain ⟨hcl, hcj, hbx, hbr⟩ := HC.out
          refine ⟨cur, ⟨hcl, fun _ => ⟨nb, [], rfl, HN.out.2.2, by simpa using hbx⟩⟩, hbr, Way.start HX.out.2.1 HY.out.2.2.1 (by rw [← HA.out.2.2.1]; exact hL0) hcl fun j hj => ?_⟩
          rw [hcj j hj]
          by_cases e : j < i
          · simp [e]
          · have hnS := HA.out.2.2.2.2.2.2.2.2
            rw [List.getElem?_eq_none (l := st) (by omega)]
            simp)
        clear hcl hcj hbx hbr HC
        go_upto_region 11 with fail
        go_cut [71] (fun s71 wc => s71 = .bool false ∧ wc = wr)
        case first =>
          by_cases hin : i < n
          · have his : ¬ i < nS := fun h => hgo ⟨hin, h⟩
            clear hgo
            go_wp2_with fail
            go_meet
            exact ⟨by simp [his], rfl⟩
          · clear hgo
            go_wp2_with fail
            go_meet
            exact ⟨by simp, rfl⟩
        case rest =>
          obtain ⟨hs71, rfl⟩ := hcut
          subst hs71
          clear hgo
          go_wp2
          go_loopw [15, 17, 18] (fun un ua uw wq => ∃ (k a : Nat) (o : Option Addr) (c : Nat) (now : List Bool), k ≤ nW ∧ uw = .int .i64 k ∧ a < L ∧ ua = .int .i64 a ∧ un = .slice o n c ∧ OwB w4.heap.size o n now wq ∧ Below w4.heap.size w4 wq ∧ Way g n X Y a 0 now) (fun _ _ uw _ => nW + 1 - (intOf uw).toNat)
          case atStart =>
            obtain ⟨now, h1, h2, h3⟩ := HE.out
            exact ⟨0, 0, _, _, now, Nat.zero_le _, rfl, hL0, rfl, rfl, h1, h2, h3⟩
          case round =>
            obtain ⟨k, a, o, c, now, hk, rfl, ha, rfl, rfl, how, hbw, hway⟩ := hrel
            obtain ⟨wo, rfl⟩ : ∃ wo : World, wo = wr := ⟨_, rfl⟩
            obtain ⟨hX, hY, fY, hYl, hxs, hb4w⟩ := HY.out
            have fX := HX.out.2.1
            have hXl := HX.out.2.2.1
            obtain ⟨bX, pX, ou, cu, rfl, c1, r1⟩ := hX.row (i := a) (by omega)
            obtain ⟨bY, pY, ov, cv, rfl, c2, r2⟩ := hY.row (i := a) (by omega)
            have hag : a < g.length := by rw [← HA.out.2.2.1]; exact ha
            obtain ⟨m, hm⟩ : ∃ m, m = insR g a := ⟨_, rfl⟩
            have hcX : (rowZ X a).length = m + 2 := by rw [fX.cnt a hway.rch, hm]
            have hcY : (rowZ Y a).length = m + 2 := by rw [fY.cnt a hway.rch, hm]
            rw [hcX] at c1 r1
            rw [hcY] at c2 r2
            have hm1 : m ≤ 30 := by rw [hm]; exact (HS.out.2.2.2.2.1 a hag).1
            have hbo : Below w.heap.size w wo := hb4w.trans (hbw.mono hb4w.size)
            obtain ⟨bl, fl, hoa, -, hrow⟩ := (HA.out.1.below hbo (Nat.le_refl _)) (by show 0 < g.length; omega)
            have hoa' : oa = some ⟨bl, fl, none⟩ := hoa
            subst hoa'
            obtain ⟨⟨ia, ic, cB⟩, -⟩ := hrow a hag
            rw [← hm] at cB
            have hx0 := hxs.below hbw hxs.lt
            have cS := hx0.cell 3
            simp at cS
            have d1 := below_cell hbw c1
            have d2 := below_cell hbw c2
            have HO := Lib.hid (And.intro c1 (And.intro r1 (And.intro c2 (And.intro r2 (And.intro hcX (And.intro hcY (And.intro hm hag)))))))
            have HB := Lib.hid (show OwB w4.heap.size o n now wo.drew ∧ Below w4.heap.size w4 wo.drew ∧ Way g n X Y a 0 now from ⟨how, hbw.drew, hway⟩)
            clear hX hY fY hYl hxs hb4w fX hXl c1 r1 c2 r2 hag hm hcX hcY hbo hoa hrow hx0 how hbw hway
            go_upto_region 18 with fail
            have hSS := And.intro d1 (And.intro d2 (And.intro cS cB))
            refine wp_region_held_drew (S := (fun w' => w'.cell? ⟨bX, pX + a, none⟩ = some (.slice ou (m + 2) cu) ∧ w'.cell? ⟨bY, pY + a, none⟩ = some (.slice ov (m + 2) cv) ∧ w'.cell? ⟨s, 3, none⟩ = some (.slice (some ⟨bl, fl, none⟩) L cap) ∧ w'.cell? ⟨bl, fl + a * 17, none⟩ = some (.slice ia m ic))) (by kernel_rfl) ?_ (fun hHeld => ?_)
            · exact hSS
            refine wpAnyH_take (i := 0) (oi := { dst := some 87, op := Op.move (Operand.tmp 17), type := 3, pos := "law.go:127", after := #[], guard := none }) (v := ?vq0_1) rfl (by kernel_rfl) (by kernel_rfl) (by kernel_rfl) (fun _ _ _ h => h) (Or.inl ⟨by rfl, ?hq0_1⟩) (by assumption) ?_
            case hq0_1 => intro w hSw; (try dsimp only at hSw); go_simp; try (with_reducible rfl)
            (try simp only [Act.put, List.setIfInBounds_toArray, List.set_cons_zero, List.set_cons_succ])
            refine wpAnyH_take (i := 1) (oi := { dst := some 88, op := Op.move (Operand.tmp 13), type := 31, pos := "law.go:127", after := #[], guard := none }) (v := ?vq1_2) rfl (by kernel_rfl) (by kernel_rfl) (by kernel_rfl) (fun _ _ _ h => h) (Or.inl ⟨by rfl, ?hq1_2⟩) (by assumption) ?_
            case hq1_2 => intro w hSw; (try dsimp only at hSw); go_simp; try (with_reducible rfl)
            (try simp only [Act.put, List.setIfInBounds_toArray, List.set_cons_zero, List.set_cons_succ])
            refine wpAnyH_take (i := 2) (oi := { dst := some 89, op := Op.call { callee := Callee.builtin Builtin.len, args := #[Operand.tmp 88], argTypes := #[31] }, type := 3, pos := "law.go:127", after := #[{ on := 1, ground := Ground.data }], guard := none }) (v := ?vq2_3) rfl (by kernel_rfl) (by kernel_rfl) (by kernel_rfl) (fun _ _ _ h => h) (Or.inl ⟨by rfl, ?hq2_3⟩) (by assumption) ?_
            case hq2_3 => intro w hSw; (try dsimp only at hSw); go_simp; try (with_reducible rfl)
            (try simp only [Act.put, List.setIfInBounds_toArray, List.set_cons_zero, List.set_cons_succ])
            refine wpAnyH_take (i := 3) (oi := { dst := some 90, op := Op.binOp BinOp.geq 3 (Operand.tmp 87) (Operand.tmp 89) 3, type := 4, pos := "law.go:127", after := #[{ on := 0, ground := Ground.data }, { on := 2, ground := Ground.data }], guard := none }) (v := .bool false) rfl (by kernel_rfl) (by kernel_rfl) (by kernel_rfl) (fun _ _ _ h => h) (Or.inl ⟨by rfl, ?hq3_4⟩) (by assumption) ?_
            case hq3_4 => intro w hSw; (try dsimp only at hSw); go_simp; try (simp; try omega)
            (try simp only [Act.put, List.setIfInBounds_toArray, List.set_cons_zero, List.set_cons_succ])
            refine wpAnyH_take (i := 4) (oi := { dst := some 91, op := Op.move (Operand.tmp 90), type := 4, pos := "law.go:127", after := #[{ on := 3, ground := Ground.data }], guard := none }) (v := ?vq4_5) rfl (by kernel_rfl) (by kernel_rfl) (by kernel_rfl) (fun _ _ _ h => h) (Or.inl ⟨by rfl, ?hq4_5⟩) (by assumption) ?_
            case hq4_5 => intro w hSw; (try dsimp only at hSw); go_simp; try (with_reducible rfl)
            (try simp only [Act.put, List.setIfInBounds_toArray, List.set_cons_zero, List.set_cons_succ])
            refine wpAnyH_take (i := 5) (oi := { dst := some 92, op := Op.move (Operand.tmp 17), type := 3, pos := "law.go:127", after := #[{ on := 4, ground := Ground.guard }], guard := some (4, false) }) (v := ?vq5_6) rfl (by kernel_rfl) (by kernel_rfl) (by kernel_rfl) (fun _ _ _ h => h) (Or.inl ⟨by rfl, ?hq5_6⟩) (by assumption) ?_
            case hq5_6 => intro w hSw; (try dsimp only at hSw); go_simp; try (with_reducible rfl)
            (try simp only [Act.put, List.setIfInBounds_toArray, List.set_cons_zero, List.set_cons_succ])
            refine wpAnyH_take (i := 6) (oi := { dst := some 93, op := Op.move (Operand.tmp 14), type := 31, pos := "law.go:127", after := #[{ on := 4, ground := Ground.guard }], guard := some (4, false) }) (v := ?vq6_7) rfl (by kernel_rfl) (by kernel_rfl) (by kernel_rfl) (fun _ _ _ h => h) (Or.inl ⟨by rfl, ?hq6_7⟩) (by assumption) ?_
            case hq6_7 => intro w hSw; (try dsimp only at hSw); go_simp; try (with_reducible rfl)
            (try simp only [Act.put, List.setIfInBounds_toArray, List.set_cons_zero, List.set_cons_succ])
            refine wpAnyH_take (i := 7) (oi := { dst := some 94, op := Op.call { callee := Callee.builtin Builtin.len, args := #[Operand.tmp 93], argTypes := #[31] }, type := 3, pos := "law.go:127", after := #[{ on := 6, ground := Ground.data }, { on := 4, ground := Ground.guard }], guard := some (4, false) }) (v := ?vq7_8) rfl (by kernel_rfl) (by kernel_rfl) (by kernel_rfl) (fun _ _ _ h => h) (Or.inl ⟨by rfl, ?hq7_8⟩) (by assumption) ?_
            case hq7_8 => intro w hSw; (try dsimp only at hSw); go_simp; try (with_reducible rfl)
            (try simp only [Act.put, List.setIfInBounds_toArray, List.set_cons_zero, List.set_cons_succ])
            refine wpAnyH_take (i := 8) (oi := { dst := some 95, op := Op.binOp BinOp.geq 3 (Operand.tmp 92) (Operand.tmp 94) 3, type := 4, pos := "law.go:127", after := #[{ on := 5, ground := Ground.data }, { on := 7, ground := Ground.data }, { on := 4, ground := Ground.guard }], guard := some (4, false) }) (v := .bool false) rfl (by kernel_rfl) (by kernel_rfl) (by kernel_rfl) (fun _ _ _ h => h) (Or.inl ⟨by rfl, ?hq8_9⟩) (by assumption) ?_
            case hq8_9 => intro w hSw; (try dsimp only at hSw); go_simp; try (simp; try omega)
            (try simp only [Act.put, List.setIfInBounds_toArray, List.set_cons_zero, List.set_cons_succ])
            refine wpAnyH_take (i := 9) (oi := { dst := some 96, op := Op.pick (Operand.tmp 91) (Operand.const (Value.bool true)) (Operand.tmp 95), type := 4, pos := "law.go:127", after := #[{ on := 4, ground := Ground.data }, { on := 8, ground := Ground.data }], guard := none }) (v := ?vq9_10) rfl (by kernel_rfl) (by kernel_rfl) (by kernel_rfl) (fun _ _ _ h => h) (Or.inl ⟨by rfl, ?hq9_10⟩) (by assumption) ?_
            case hq9_10 => intro w hSw; (try dsimp only at hSw); go_simp; try (with_reducible rfl)
            (try simp only [Act.put, List.setIfInBounds_toArray, List.set_cons_zero, List.set_cons_succ])
            refine wpAnyH_take (i := 10) (oi := { dst := some 97, op := Op.move (Operand.tmp 96), type := 4, pos := "law.go:127", after := #[{ on := 9, ground := Ground.data }, { on := 4, ground := Ground.chain }], guard := none }) (v := ?vq10_11) rfl (by kernel_rfl) (by kernel_rfl) (by kernel_rfl) (fun _ _ _ h => h) (Or.inl ⟨by rfl, ?hq10_11⟩) (by assumption) ?_
            case hq10_11 => intro w hSw; (try dsimp only at hSw); go_simp; try (with_reducible rfl)
            (try simp only [Act.put, List.setIfInBounds_toArray, List.set_cons_zero, List.set_cons_succ])
            refine wpAnyH_take (i := 11) (oi := { dst := some 98, op := Op.move (Operand.tmp 13), type := 31, pos := "law.go:127", after := #[{ on := 10, ground := Ground.guard }], guard := some (10, false) }) (v := ?vq11_12) rfl (by kernel_rfl) (by kernel_rfl) (by kernel_rfl) (fun _ _ _ h => h) (Or.inl ⟨by rfl, ?hq11_12⟩) (by assumption) ?_
            case hq11_12 => intro w hSw; (try dsimp only at hSw); go_simp; try (with_reducible rfl)
            (try simp only [Act.put, List.setIfInBounds_toArray, List.set_cons_zero, List.set_cons_succ])
            refine wpAnyH_take (i := 12) (oi := { dst := some 99, op := Op.move (Operand.tmp 17), type := 3, pos := "law.go:127", after := #[{ on := 10, ground := Ground.guard }], guard := some (10, false) }) (v := ?vq12_13) rfl (by kernel_rfl) (by kernel_rfl) (by kernel_rfl) (fun _ _ _ h => h) (Or.inl ⟨by rfl, ?hq12_13⟩) (by assumption) ?_
            case hq12_13 => intro w hSw; (try dsimp only at hSw); go_simp; try (with_reducible rfl)
            (try simp only [Act.put, List.setIfInBounds_toArray, List.set_cons_zero, List.set_cons_succ])
            refine wpAnyH_take (i := 13) (oi := { dst := some 100, op := Op.indexAddr 31 (Operand.tmp 98) (Operand.tmp 99), type := 0, pos := "law.go:127", after := #[{ on := 11, ground := Ground.data }, { on := 12, ground := Ground.data }, { on := 10, ground := Ground.guard }], guard := some (10, false) }) (v := ?vq13_14) rfl (by kernel_rfl) (by kernel_rfl) (by kernel_rfl) (fun _ _ _ h => h) (Or.inl ⟨by rfl, ?hq13_14⟩) (by assumption) ?_
            case hq13_14 => intro w hSw; (try dsimp only at hSw); go_simp; try (with_reducible rfl)
            (try simp only [Act.put, List.setIfInBounds_toArray, List.set_cons_zero, List.set_cons_succ])
            refine wpAnyH_take (i := 14) (oi := { dst := some 101, op := Op.load 44 (Operand.tmp 100), type := 44, pos := "law.go:127", after := #[{ on := 13, ground := Ground.data }, { on := 10, ground := Ground.guard }], guard := some (10, false) }) (v := ?vq14_15) rfl (by kernel_rfl) (by kernel_rfl) (by kernel_rfl) (fun _ _ _ h => h) (Or.inl ⟨by rfl, ?hq14_15⟩) (by assumption) ?_
            case hq14_15 => intro w hSw; (try dsimp only at hSw); go_simp; try (with_reducible rfl)
            (try simp only [Act.put, List.setIfInBounds_toArray, List.set_cons_zero, List.set_cons_succ])
            refine wpAnyH_take (i := 15) (oi := { dst := some 102, op := Op.call { callee := Callee.builtin Builtin.len, args := #[Operand.tmp 101], argTypes := #[44] }, type := 3, pos := "law.go:127", after := #[{ on := 14, ground := Ground.data }, { on := 10, ground := Ground.guard }], guard := some (10, false) }) (v := ?vq15_16) rfl (by kernel_rfl) (by kernel_rfl) (by kernel_rfl) (fun _ _ _ h => h) (Or.inl ⟨by rfl, ?hq15_16⟩) (by assumption) ?_
            case hq15_16 => intro w hSw; (try dsimp only at hSw); go_simp; try (with_reducible rfl)
            (try simp only [Act.put, List.setIfInBounds_toArray, List.set_cons_zero, List.set_cons_succ])
            refine wpAnyH_take (i := 16) (oi := { dst := some 103, op := Op.fieldAddr 25 (Operand.tmp 5) 3, type := 0, pos := "law.go:127", after := #[{ on := 10, ground := Ground.guard }], guard := some (10, false) }) (v := ?vq16_17) rfl (by kernel_rfl) (by kernel_rfl) (by kernel_rfl) (fun _ _ _ h => h) (Or.inl ⟨by rfl, ?hq16_17⟩) (by assumption) ?_
            case hq16_17 => intro w hSw; (try dsimp only at hSw); go_simp; try (with_reducible rfl)
            (try simp only [Act.put, List.setIfInBounds_toArray, List.set_cons_zero, List.set_cons_succ])
            refine wpAnyH_take (i := 17) (oi := { dst := some 104, op := Op.load 23 (Operand.tmp 103), type := 23, pos := "law.go:127", after := #[{ on := 16, ground := Ground.data }, { on := 10, ground := Ground.guard }], guard := some (10, false) }) (v := ?vq17_18) rfl (by kernel_rfl) (by kernel_rfl) (by kernel_rfl) (fun _ _ _ h => h) (Or.inl ⟨by rfl, ?hq17_18⟩) (by assumption) ?_
            case hq17_18 => intro w hSw; (try dsimp only at hSw); go_simp; try (with_reducible rfl)
            (try simp only [Act.put, List.setIfInBounds_toArray, List.set_cons_zero, List.set_cons_succ])
            refine wpAnyH_take (i := 18) (oi := { dst := some 105, op := Op.move (Operand.tmp 17), type := 3, pos := "law.go:127", after := #[{ on := 10, ground := Ground.guard }], guard := some (10, false) }) (v := ?vq18_19) rfl (by kernel_rfl) (by kernel_rfl) (by kernel_rfl) (fun _ _ _ h => h) (Or.inl ⟨by rfl, ?hq18_19⟩) (by assumption) ?_
            case hq18_19 => intro w hSw; (try dsimp only at hSw); go_simp; try (with_reducible rfl)
            (try simp only [Act.put, List.setIfInBounds_toArray, List.set_cons_zero, List.set_cons_succ])
            refine wpAnyH_take (i := 19) (oi := { dst := some 106, op := Op.indexAddr 23 (Operand.tmp 104) (Operand.tmp 105), type := 0, pos := "law.go:127", after := #[{ on := 17, ground := Ground.data }, { on := 18, ground := Ground.data }, { on := 10, ground := Ground.guard }], guard := some (10, false) }) (v := ?vq19_20) rfl (by kernel_rfl) (by kernel_rfl) (by kernel_rfl) (fun _ _ _ h => h) (Or.inl ⟨by rfl, ?hq19_20⟩) (by assumption) ?_
            case hq19_20 => intro w hSw; (try dsimp only at hSw); go_simp; try (with_reducible rfl)
            (try simp only [Act.put, List.setIfInBounds_toArray, List.set_cons_zero, List.set_cons_succ])
            refine wpAnyH_take (i := 20) (oi := { dst := some 107, op := Op.fieldAddr 58 (Operand.tmp 106) 0, type := 0, pos := "law.go:127", after := #[{ on := 19, ground := Ground.data }, { on := 10, ground := Ground.guard }], guard := some (10, false) }) (v := ?vq20_21) rfl (by kernel_rfl) (by kernel_rfl) (by kernel_rfl) (fun _ _ _ h => h) (Or.inl ⟨by rfl, ?hq20_21⟩) (by assumption) ?_
            case hq20_21 => intro w hSw; (try dsimp only at hSw); go_simp; try (with_reducible rfl)
            (try simp only [Act.put, List.setIfInBounds_toArray, List.set_cons_zero, List.set_cons_succ])
            refine wpAnyH_take (i := 21) (oi := { dst := some 108, op := Op.load 45 (Operand.tmp 107), type := 45, pos := "law.go:127", after := #[{ on := 20, ground := Ground.data }, { on := 10, ground := Ground.guard }], guard := some (10, false) }) (v := ?vq21_22) rfl (by kernel_rfl) (by kernel_rfl) (by kernel_rfl) (fun _ _ _ h => h) (Or.inl ⟨by rfl, ?hq21_22⟩) (by assumption) ?_
            case hq21_22 => intro w hSw; (try dsimp only at hSw); go_simp; try (with_reducible rfl)
            (try simp only [Act.put, List.setIfInBounds_toArray, List.set_cons_zero, List.set_cons_succ])
            refine wpAnyH_take (i := 22) (oi := { dst := some 109, op := Op.call { callee := Callee.builtin Builtin.len, args := #[Operand.tmp 108], argTypes := #[45] }, type := 3, pos := "law.go:127", after := #[{ on := 21, ground := Ground.data }, { on := 10, ground := Ground.guard }], guard := some (10, false) }) (v := ?vq22_23) rfl (by kernel_rfl) (by kernel_rfl) (by kernel_rfl) (fun _ _ _ h => h) (Or.inl ⟨by rfl, ?hq22_23⟩) (by assumption) ?_
            case hq22_23 => intro w hSw; (try dsimp only at hSw); go_simp; try (with_reducible rfl)
            (try simp only [Act.put, List.setIfInBounds_toArray, List.set_cons_zero, List.set_cons_succ])
            refine wpAnyH_take (i := 23) (oi := { dst := some 110, op := Op.binOp BinOp.add 3 (Operand.tmp 109) (Operand.const (Value.int IntKind.i64 2)) 3, type := 3, pos := "law.go:127", after := #[{ on := 22, ground := Ground.data }, { on := 10, ground := Ground.guard }], guard := some (10, false) }) (v := .int .i64 ((m : Int) + 2)) rfl (by kernel_rfl) (by kernel_rfl) (by kernel_rfl) (fun _ _ _ h => h) (Or.inl ⟨by rfl, ?hq23_24⟩) (by assumption) ?_
            case hq23_24 => intro w hSw; (try dsimp only at hSw); go_simp; try rw [wrapP2 m (by omega)]
            (try simp only [Act.put, List.setIfInBounds_toArray, List.set_cons_zero, List.set_cons_succ])
            refine wpAnyH_take (i := 24) (oi := { dst := some 111, op := Op.binOp BinOp.neq 3 (Operand.tmp 102) (Operand.tmp 110) 3, type := 4, pos := "law.go:127", after := #[{ on := 15, ground := Ground.data }, { on := 23, ground := Ground.data }, { on := 10, ground := Ground.guard }], guard := some (10, false) }) (v := .bool false) rfl (by kernel_rfl) (by kernel_rfl) (by kernel_rfl) (fun _ _ _ h => h) (Or.inl ⟨by rfl, ?hq24_25⟩) (by assumption) ?_
            case hq24_25 => intro w hSw; (try dsimp only at hSw); go_simp; try (simp; try omega)
            (try simp only [Act.put, List.setIfInBounds_toArray, List.set_cons_zero, List.set_cons_succ])
            refine wpAnyH_take (i := 25) (oi := { dst := some 112, op := Op.pick (Operand.tmp 97) (Operand.const (Value.bool true)) (Operand.tmp 111), type := 4, pos := "law.go:127", after := #[{ on := 10, ground := Ground.data }, { on := 24, ground := Ground.data }], guard := none }) (v := ?vq25_26) rfl (by kernel_rfl) (by kernel_rfl) (by kernel_rfl) (fun _ _ _ h => h) (Or.inl ⟨by rfl, ?hq25_26⟩) (by assumption) ?_
            case hq25_26 => intro w hSw; (try dsimp only at hSw); go_simp; try (with_reducible rfl)
            (try simp only [Act.put, List.setIfInBounds_toArray, List.set_cons_zero, List.set_cons_succ])
            refine wpAnyH_take (i := 26) (oi := { dst := some 113, op := Op.move (Operand.tmp 112), type := 4, pos := "law.go:127", after := #[{ on := 25, ground := Ground.data }, { on := 10, ground := Ground.chain }], guard := none }) (v := ?vq26_27) rfl (by kernel_rfl) (by kernel_rfl) (by kernel_rfl) (fun _ _ _ h => h) (Or.inl ⟨by rfl, ?hq26_27⟩) (by assumption) ?_
            case hq26_27 => intro w hSw; (try dsimp only at hSw); go_simp; try (with_reducible rfl)
            (try simp only [Act.put, List.setIfInBounds_toArray, List.set_cons_zero, List.set_cons_succ])
            refine wpAnyH_take (i := 27) (oi := { dst := some 114, op := Op.move (Operand.tmp 14), type := 31, pos := "law.go:127", after := #[{ on := 26, ground := Ground.guard }], guard := some (26, false) }) (v := ?vq27_28) rfl (by kernel_rfl) (by kernel_rfl) (by kernel_rfl) (fun _ _ _ h => h) (Or.inl ⟨by rfl, ?hq27_28⟩) (by assumption) ?_
            case hq27_28 => intro w hSw; (try dsimp only at hSw); go_simp; try (with_reducible rfl)
            (try simp only [Act.put, List.setIfInBounds_toArray, List.set_cons_zero, List.set_cons_succ])
            refine wpAnyH_take (i := 28) (oi := { dst := some 115, op := Op.move (Operand.tmp 17), type := 3, pos := "law.go:127", after := #[{ on := 26, ground := Ground.guard }], guard := some (26, false) }) (v := ?vq28_29) rfl (by kernel_rfl) (by kernel_rfl) (by kernel_rfl) (fun _ _ _ h => h) (Or.inl ⟨by rfl, ?hq28_29⟩) (by assumption) ?_
            case hq28_29 => intro w hSw; (try dsimp only at hSw); go_simp; try (with_reducible rfl)
            (try simp only [Act.put, List.setIfInBounds_toArray, List.set_cons_zero, List.set_cons_succ])
            refine wpAnyH_take (i := 29) (oi := { dst := some 116, op := Op.indexAddr 31 (Operand.tmp 114) (Operand.tmp 115), type := 0, pos := "law.go:127", after := #[{ on := 27, ground := Ground.data }, { on := 28, ground := Ground.data }, { on := 26, ground := Ground.guard }], guard := some (26, false) }) (v := ?vq29_30) rfl (by kernel_rfl) (by kernel_rfl) (by kernel_rfl) (fun _ _ _ h => h) (Or.inl ⟨by rfl, ?hq29_30⟩) (by assumption) ?_
            case hq29_30 => intro w hSw; (try dsimp only at hSw); go_simp; try (with_reducible rfl)
            (try simp only [Act.put, List.setIfInBounds_toArray, List.set_cons_zero, List.set_cons_succ])
            refine wpAnyH_take (i := 30) (oi := { dst := some 117, op := Op.load 44 (Operand.tmp 116), type := 44, pos := "law.go:127", after := #[{ on := 29, ground := Ground.data }, { on := 26, ground := Ground.guard }], guard := some (26, false) }) (v := ?vq30_31) rfl (by kernel_rfl) (by kernel_rfl) (by kernel_rfl) (fun _ _ _ h => h) (Or.inl ⟨by rfl, ?hq30_31⟩) (by assumption) ?_
            case hq30_31 => intro w hSw; (try dsimp only at hSw); go_simp; try (with_reducible rfl)
            (try simp only [Act.put, List.setIfInBounds_toArray, List.set_cons_zero, List.set_cons_succ])
            refine wpAnyH_take (i := 31) (oi := { dst := some 118, op := Op.call { callee := Callee.builtin Builtin.len, args := #[Operand.tmp 117], argTypes := #[44] }, type := 3, pos := "law.go:127", after := #[{ on := 30, ground := Ground.data }, { on := 26, ground := Ground.guard }], guard := some (26, false) }) (v := ?vq31_32) rfl (by kernel_rfl) (by kernel_rfl) (by kernel_rfl) (fun _ _ _ h => h) (Or.inl ⟨by rfl, ?hq31_32⟩) (by assumption) ?_
            case hq31_32 => intro w hSw; (try dsimp only at hSw); go_simp; try (with_reducible rfl)
            (try simp only [Act.put, List.setIfInBounds_toArray, List.set_cons_zero, List.set_cons_succ])
            refine wpAnyH_take (i := 32) (oi := { dst := some 119, op := Op.move (Operand.tmp 13), type := 31, pos := "law.go:127", after := #[{ on := 26, ground := Ground.guard }], guard := some (26, false) }) (v := ?vq32_33) rfl (by kernel_rfl) (by kernel_rfl) (by kernel_rfl) (fun _ _ _ h => h) (Or.inl ⟨by rfl, ?hq32_33⟩) (by assumption) ?_
            case hq32_33 => intro w hSw; (try dsimp only at hSw); go_simp; try (with_reducible rfl)
            (try simp only [Act.put, List.setIfInBounds_toArray, List.set_cons_zero, List.set_cons_succ])
            refine wpAnyH_take (i := 33) (oi := { dst := some 120, op := Op.move (Operand.tmp 17), type := 3, pos := "law.go:127", after := #[{ on := 26, ground := Ground.guard }], guard := some (26, false) }) (v := ?vq33_34) rfl (by kernel_rfl) (by kernel_rfl) (by kernel_rfl) (fun _ _ _ h => h) (Or.inl ⟨by rfl, ?hq33_34⟩) (by assumption) ?_
            case hq33_34 => intro w hSw; (try dsimp only at hSw); go_simp; try (with_reducible rfl)
            (try simp only [Act.put, List.setIfInBounds_toArray, List.set_cons_zero, List.set_cons_succ])
            refine wpAnyH_take (i := 34) (oi := { dst := some 121, op := Op.indexAddr 31 (Operand.tmp 119) (Operand.tmp 120), type := 0, pos := "law.go:127", after := #[{ on := 32, ground := Ground.data }, { on := 33, ground := Ground.data }, { on := 26, ground := Ground.guard }], guard := some (26, false) }) (v := ?vq34_35) rfl (by kernel_rfl) (by kernel_rfl) (by kernel_rfl) (fun _ _ _ h => h) (Or.inl ⟨by rfl, ?hq34_35⟩) (by assumption) ?_
            case hq34_35 => intro w hSw; (try dsimp only at hSw); go_simp; try (with_reducible rfl)
            (try simp only [Act.put, List.setIfInBounds_toArray, List.set_cons_zero, List.set_cons_succ])
            refine wpAnyH_take (i := 35) (oi := { dst := some 122, op := Op.load 44 (Operand.tmp 121), type := 44, pos := "law.go:127", after := #[{ on := 34, ground := Ground.data }, { on := 26, ground := Ground.guard }], guard := some (26, false) }) (v := ?vq35_36) rfl (by kernel_rfl) (by kernel_rfl) (by kernel_rfl) (fun _ _ _ h => h) (Or.inl ⟨by rfl, ?hq35_36⟩) (by assumption) ?_
            case hq35_36 => intro w hSw; (try dsimp only at hSw); go_simp; try (with_reducible rfl)
            (try simp only [Act.put, List.setIfInBounds_toArray, List.set_cons_zero, List.set_cons_succ])
            refine wpAnyH_take (i := 36) (oi := { dst := some 123, op := Op.call { callee := Callee.builtin Builtin.len, args := #[Operand.tmp 122], argTypes := #[44] }, type := 3, pos := "law.go:127", after := #[{ on := 35, ground := Ground.data }, { on := 26, ground := Ground.guard }], guard := some (26, false) }) (v := ?vq36_37) rfl (by kernel_rfl) (by kernel_rfl) (by kernel_rfl) (fun _ _ _ h => h) (Or.inl ⟨by rfl, ?hq36_37⟩) (by assumption) ?_
            case hq36_37 => intro w hSw; (try dsimp only at hSw); go_simp; try (with_reducible rfl)
            (try simp only [Act.put, List.setIfInBounds_toArray, List.set_cons_zero, List.set_cons_succ])
            refine wpAnyH_take (i := 37) (oi := { dst := some 124, op := Op.binOp BinOp.neq 3 (Operand.tmp 118) (Operand.tmp 123) 3, type := 4, pos := "law.go:127", after := #[{ on := 31, ground := Ground.data }, { on := 36, ground := Ground.data }, { on := 26, ground := Ground.guard }], guard := some (26, false) }) (v := ?vq37_38) rfl (by kernel_rfl) (by kernel_rfl) (by kernel_rfl) (fun _ _ _ h => h) (Or.inl ⟨by rfl, ?hq37_38⟩) (by assumption) ?_
            case hq37_38 => intro w hSw; (try dsimp only at hSw); go_simp; try (with_reducible rfl)
            (try simp only [Act.put, List.setIfInBounds_toArray, List.set_cons_zero, List.set_cons_succ])
            refine wpAnyH_take (i := 38) (oi := { dst := some 125, op := Op.pick (Operand.tmp 113) (Operand.const (Value.bool true)) (Operand.tmp 124), type := 4, pos := "law.go:127", after := #[{ on := 26, ground := Ground.data }, { on := 37, ground := Ground.data }], guard := none }) (v := .bool false) rfl (by kernel_rfl) (by kernel_rfl) (by kernel_rfl) (fun _ _ _ h => h) (Or.inl ⟨by rfl, ?hq38_39⟩) (by assumption) ?_
            case hq38_39 => intro w hSw; (try dsimp only at hSw); go_simp; try (simp; try omega)
            (try simp only [Act.put, List.setIfInBounds_toArray, List.set_cons_zero, List.set_cons_succ])
            refine wpAnyH_done (by kernel_rfl) ?_ _
            clear d1 d2 cS cB hSS
            go_wp2
            go_loopw [15, 19] (fun un uk wr => ∃ (q : Nat) (o : Option Addr) (c : Nat) (nw : List Bool), q ≤ m + 2 ∧ uk = .int .i64 q ∧ un = .slice o n c ∧ OwB w4.heap.size o n nw wr ∧ Below w4.heap.size w4 wr ∧ Way g n X Y a (min q (m + 1)) nw) (fun _ uk _ => m + 2 - (intOf uk).toNat)
            case atStart =>
              obtain ⟨h1, h2, h3⟩ := HB.out
              exact ⟨0, _, _, now, Nat.zero_le _, rfl, rfl, h1, h2, by simpa using h3⟩
            case round =>
              clear HB
              obtain ⟨q, o1, c1', nw, hq, rfl, rfl, how, hbw, hway⟩ := hrel
              obtain ⟨wp, rfl⟩ : ∃ wp : World, wp = wr := ⟨_, rfl⟩
              have d1 := below_cell hbw HO.out.1
              have d2 := below_cell hbw HO.out.2.2.1
              by_cases hlq : q < m + 2
              · as_aux_lemma =>
                  rw [show min q (m + 1) = q by omega] at hway
                  obtain ⟨-, r1, -, r2, hcX, hcY, hm, hag⟩ := HO.out
                  have fX := HX.out.2.1
                  have fY := HY.out.2.2.1
                  obtain ⟨bU, pU, ox, cx, rfl, c3, r3⟩ := r1.row (i := q) (by omega)
                  obtain ⟨bV, pV, oy, cy, rfl, c4, r4⟩ := r2.row (i := q) (by omega)
                  have hl3 : ((rowZ X a)[q]?.getD []).length = n := fX.row a q hway.rch (by omega)
                  have hl4 : ((rowZ Y a)[q]?.getD []).length = n := fY.row a q hway.rch (by omega)
                  rw [hl3] at c3 r3
                  rw [hl4] at c4 r4
                  have d3 := below_cell hbw c3
                  have d4 := below_cell hbw c4
                  have HQ := Lib.hid (And.intro how (And.intro hbw (And.intro hway (And.intro r3 (And.intro r4 (And.intro hl3 (And.intro hl4 (And.intro hm hag))))))))
                  clear r1 r2 hcX hcY hm hag fX fY c3 r3 c4 r4 hl3 hl4 how hbw hway
                  go_wp2
                  go_loopw [20] (fun uj wr => ∃ j : Nat, j ≤ n ∧ uj = .int .i64 j ∧ wr = wp) (fun uj _ => n - (intOf uj).toNat)
                  case atStart => exact ⟨0, Nat.zero_le _, rfl, rfl⟩
                  case round =>
                    obtain ⟨j, hj, rfl, rfl⟩ := hrel
                    by_cases hjn : j < n
                    · obtain ⟨how, hbw, hway, r3, r4, hl3, hl4, -⟩ := HQ.out
                      obtain ⟨bA, pA, rfl, c5⟩ := r3.at (i := j) (by omega)
                      obtain ⟨bB, pB, rfl, c6⟩ := r4.at (i := j) (by omega)
                      obtain ⟨hnl, hob⟩ := how
                      obtain ⟨gN, ex, rfl, -, hbN⟩ := hob (by omega)
                      have c7 := hbN.cell j
                      rw [bC_at (by omega)] at c7
                      have d5 := below_cell hbw c5
                      have d6 := below_cell hbw c6
                      have hk1 := hway.some j hjn
                      have hk2 := hway.all j hjn
                      obtain ⟨x0, hx0⟩ : ∃ x, x = nw[j]?.getD false := ⟨_, rfl⟩
                      obtain ⟨x1, hx1⟩ : ∃ x, x = ((rowZ X a)[q]?.getD [])[j]?.getD false := ⟨_, rfl⟩
                      obtain ⟨x2, hx2⟩ : ∃ x, x = ((rowZ Y a)[q]?.getD [])[j]?.getD false := ⟨_, rfl⟩
                      have hk3 : x0 = true → x1 = true := fun h => hx1.trans (hk1 (hx0.symm.trans h))
                      have hk4 : x2 = true → x0 = true := fun h => hx0.trans (hk2 (hx2.symm.trans h))
                      rw [← hx0] at c7
                      rw [← hx1] at d5
                      rw [← hx2] at d6
                      clear hbw hway r3 r4 hl3 hl4 c5 c6 hnl hob hbN hk1 hk2 hx0 hx1 hx2
                      cases x0 with
                      | true =>
                        obtain rfl : x1 = true := hk3 rfl
                        clear hk3 hk4
                        cases x2 with
                        | true =>
                          go_wp2
                          go_roundw
                          case rel => exact ⟨j + 1, hjn, nxt _, by first | rfl | trivial⟩
                          case measure => exact meas hjn
                        | false =>
                          go_wp2
                          go_roundw
                          case rel => exact ⟨j + 1, hjn, nxt _, by first | rfl | trivial⟩
                          case measure => exact meas hjn
                      | false =>
                        obtain rfl : x2 = false := by
                          cases x2
                          · rfl
                          · exact absurd (hk4 rfl) (by decide)
                        clear hk3 hk4
                        go_wp2
                        go_roundw
                        case rel => exact ⟨j + 1, hjn, nxt _, by first | rfl | trivial⟩
                        case measure => exact meas hjn
                    · have HAF : Go.RowKit.Hid (Calls Try.prog 22 #[.slice o1 n c1', .slice oc kC capC, .int .i64 (a : Int), .int .i64 (q : Int)] wr fun e w' => ∃ o' c', e = .returned (.slice o' n c') ∧ OwB wr.heap.size o' n (aftF C a q n nw) w' ∧ Below wr.heap.size wr w') := Lib.hid (by
                        obtain ⟨hB, hC, hL, hnC, -⟩ := HA.out
                        have hb4w := HY.out.2.2.2.2.2
                        have hb9 : Below w.heap.size w wr := hb4w.trans (HQ.out.2.1.mono hb4w.size)
                        have h := after_any w.heap.size oc capC C a q o1 n c1' nw wr (hC.below hb9 (Nat.le_refl _)) HS.out.1.2.1.2 (by have := HS.out.1.2.1.1; omega) hb9.size (by omega) (HQ.out.1.mono (Nat.zero_le _))
                        rw [← hnC] at h
                        exact h)
                      obtain rfl : n = j := by omega
                      by_cases hq1 : q < m + 1
                      · go_wp2_with (go_at_call 22; refine HAF.out.mono ?_; clear HAF; rintro e w' ⟨o2, c2, rfl, how2, hb2⟩)
                        go_roundw
                        case rel =>
                          obtain ⟨how, hbw, hway, -, -, -, -, hm, hag⟩ := HQ.out
                          have hok : okS g a q = true := by simp [okS, isPl]; omega
                          refine ⟨q + 1, o2, c2, _, by omega, nxt _, rfl, how2.mono hbw.size, hbw.trans (hb2.mono hbw.size), ?_⟩
                          rw [show min (q + 1) (m + 1) = q + 1 by omega, aftF_step hok]
                          exact Way.step HX.out.2.1 HY.out.2.2.1 hway (by omega)
                        case measure => exact meas hlq
                      · clear HAF
                        go_wp2
                        go_roundw
                        case rel =>
                          obtain ⟨how, hbw, hway, -⟩ := HQ.out
                          refine ⟨q + 1, o1, c1', nw, by omega, nxt _, rfl, how, hbw, ?_⟩
                          rw [show min (q + 1) (m + 1) = q by omega]
                          exact hway
                        case measure => exact meas hlq
              · as_aux_lemma =>
                  obtain rfl : q = m + 2 := last hq hlq
                  rw [show min (m + 2) (m + 1) = m + 1 by omega] at hway
                  have hbo : Below w.heap.size w wp := HY.out.2.2.2.2.2.trans (hbw.mono HY.out.2.2.2.2.2.size)
                  have hx5 := HY.out.2.2.2.2.1.below hbw HY.out.2.2.2.2.1.lt
                  have e0 := hx5.cell 0
                  have e1 := hx5.cell 1
                  have e2 := hx5.cell 2
                  have e3 := hx5.cell 3
                  simp at e0 e1 e2 e3
                  have HTO : Go.RowKit.Hid (Calls Try.prog 23 #[.agg #[nm, pa, lo, .slice (some ⟨bl, fl, none⟩) L cap], .int .i64 (a : Int)] wp fun e w' => ∃ v base, e = .returned v ∧ Below wp.heap.size wp w' ∧ wp.heap.size ≤ base ∧ w'.ownsRow base 3 1 v (tos g a).length (nC (tos g a))) := Lib.hid (by
                    obtain ⟨hB, hC, hL, -⟩ := HA.out
                    have h := to_any w.heap.size ⟨nm, pa, lo, some ⟨bl, fl, none⟩, cap, g⟩ a HO.out.2.2.2.2.2.2.2 HS.out.1.1 wp (hB.below hbo (Nat.le_refl _)) hbo.size
                    unfold Bv.v Bv.cs at h
                    simp only [← hL] at h
                    exact h)
                  have H5 := Lib.hid (And.intro how (And.intro hbw (And.intro hway hbo)))
                  clear how hbw hway hbo hx5
                  go_upto_region 33 with (go_at_call 23; refine HTO.out.mono ?_; clear HTO e0 e1 e2 e3; rintro e w6 ⟨v, base, rfl, ht1, ht2, ht3⟩)
                  obtain ⟨ot, ct, rfl, hints⟩ := own_parts ht3
                  obtain ⟨nT, hnT⟩ : ∃ n, n = (tos g a).length := ⟨_, rfl⟩
                  rw [← hnT] at hints ⊢
                  have hnT1 : nT ≤ 30 := by
                    have h1 := List.length_filterMap_le (fun t => if isPl t g.length then some t.toNat else none) (toR g a)
                    have h2 := (HS.out.2.2.2.2.1 a HO.out.2.2.2.2.2.2.2).2
                    rw [hnT, tos, tv]
                    omega
                  have HT := Lib.hid (And.intro ht1 (And.intro hints hnT))
                  clear ht1 ht2 ht3 hints hnT
                  by_cases hkW : k = nW
                  · subst hkW
                    go_wp2
                    go_ret
                    exact ⟨rfl, H5.out.2.2.2.trans (HT.out.1.mono H5.out.2.2.2.size)⟩
                  by_cases hT0 : nT = 0
                  · subst hT0
                    go_wp2
                    go_ret
                    exact ⟨rfl, H5.out.2.2.2.trans (HT.out.1.mono H5.out.2.2.2.size)⟩
                  obtain ⟨ht1, hints, hnT⟩ := HT.out
                  have hkl : k < nW := by omega
                  obtain ⟨-, -, hLg, -, hnW, hWc, hww, -⟩ := HA.out
                  obtain ⟨bW, fW, rfl, -, hwc⟩ := hWc (by omega)
                  have cW := hwc k hkl
                  have hkw : k < way.length := by omega
                  obtain ⟨x, hx⟩ : ∃ x, x = way[k]?.getD 0 := ⟨_, rfl⟩
                  rw [← hx] at cW
                  have hxw : -9223372036854775808 ≤ x ∧ x ≤ 9223372036854775807 := by
                    refine i64_bounds (hww x ?_)
                    rw [hx, List.getElem?_eq_getElem hkw]
                    exact List.getElem_mem _
                  obtain ⟨i1, i2, i5, i6⟩ := idx_of x nT (by omega) hxw (by omega)
                  obtain ⟨ix, hix⟩ : ∃ ix : Nat, (ix : Int) = (x.tmod nT + nT).tmod nT := ⟨((x.tmod nT + nT).tmod nT).toNat, by omega⟩
                  have hixl : ix < nT := by omega
                  obtain ⟨gt, ext, rfl, hbt⟩ := hints (by omega)
                  have c1 := hbt.cell ix
                  have hil : ix < (tos g a).length := by omega
                  rw [nC_at hil] at c1
                  obtain ⟨t, ht⟩ : ∃ t, t = (tos g a)[ix] := ⟨_, rfl⟩
                  rw [← ht] at c1
                  have htm : t ∈ tos g a := ht ▸ List.getElem_mem hil
                  have htL : t < L := by
                    have := tos_lt htm
                    omega
                  have hbW7 : Below w.heap.size w w6 := H5.out.2.2.2.trans (ht1.mono H5.out.2.2.2.size)
                  have dW := (hbW7.cell (p := ⟨bW, fW + k, none⟩) (World.block_lt_of_cell? w _ cW)).trans cW
                  rw [show ix = ((x.tmod nT + nT).tmod nT).toNat by omega] at c1
                  have hq0 : ¬ (nT : Int) = 0 := by omega
                  have hq00 : ((nT : Int) == 0) = false := by simp; omega
                  have HG := Lib.hid htm
                  clear ht1 hints hnT hLg hnW hWc hww hwc cW hkw hx hxw hbt hil ht htm hbW7
                  go_wp2
                  go_roundw
                  case rel =>
                    obtain ⟨how, hbw, hway, -⟩ := H5.out
                    refine ⟨k + 1, t, o1, c1', nw, hkl, nxt _, htL, rfl, rfl, how.below HT.out.1, hbw.trans (HT.out.1.mono hbw.size), ?_⟩
                    rw [HO.out.2.2.2.2.2.2.1] at hway
                    exact Way.go HX.out.2.1 HY.out.2.2.1 hway HG.out
                  case measure => exact meas (show k < nW + 1 by omega)
end Go.Proofs.Ythfdomgkmfcolaa
