/-
  GraphGoes' walk. Conditions: the argument lies in the heap.
-/
import Derived.Test.YthfdomgkmfcolaaGRPreds
import Derived.Test.YthfdomgkmfcolaaGRReach
namespace Go.Proofs.Ythfdomgkmfcolaa
open Go Go.RowKit

theorem prdK_len (g : Gb) (k x : Nat) : (prdK g k x).length ≤ k := by
  have h := List.length_filter_le (fun i => decide (x ∈ tos g i)) (List.range k)
  rw [List.length_range] at h
  exact h
/-- A row of Preds, as it is read. -/
theorem PdAt.read {w : World} {base pr : Nat} {vs : List Value} {P : Nat → List Nat} (h : PdAt w base pr vs P) {i : Nat} (hi : i < vs.length) : ∃ ou cu, w.cell? ⟨pr, i, none⟩ = some (.slice ou (P i).length cu) ∧ ∀ j (hj : j < (P i).length), ∃ gu, ou = some ⟨gu, 0, none⟩ ∧ w.cell? ⟨gu, j, none⟩ = some (.int .i64 ((P i)[j] : Int)) := by
  obtain ⟨v, h1, h2⟩ := h.own i hi
  obtain ⟨ou, cu, rfl, h3⟩ := own_parts h2
  refine ⟨ou, cu, by rw [h.rows.cell]; exact h1, fun j hj => ?_⟩
  obtain ⟨gu, ex, e, hb⟩ := h3 (by omega)
  exact ⟨gu, e, by rw [hb.cell]; exact nC_at hj⟩

set_option maxRecDepth 100000 in
set_option maxHeartbeats 8000000 in
theorem graphGoes_walk (B : Bv) (w : World) (hB : B.At w.heap.size w) (hgl : B.g.length ≤ maxLen) :
    Calls Try.prog 5 #[B.v] w fun e w' => e = .returned (.bool true) ∧ Below w.heap.size w w' := by
  obtain ⟨nm, pa, lo, oa, cap, g⟩ := B
  simp only at hgl ⊢
  obtain ⟨L, hL⟩ : ∃ L, L = g.length := ⟨_, rfl⟩
  unfold maxLen at hgl
  have HA := Lib.hid (And.intro hB hL)
  unfold Bv.v Bv.cs
  simp only [← hL]
  clear hB hL hgl
  go_enter Try.func5, Try.ntmps5
  go_upto_region 1 with fail
  obtain ⟨wa, hwa⟩ : ∃ wa, wa = w.alloc (.cells #[nm, pa, lo, .slice oa L cap] 25) := ⟨_, rfl⟩
  obtain ⟨s, hs⟩ : ∃ s, s = w.heap.size := ⟨_, rfl⟩
  rw [← hwa, ← hs]
  have hxa : Bx wa s 25 [nm, pa, lo, .slice oa L cap] := by
    rw [hwa, hs]
    exact Bx.new w _ [nm, pa, lo, .slice oa L cap]
  have hba : Below w.heap.size w wa := by
    rw [hwa]
    exact (Below.refl _ _).alloc (Nat.le_refl _) _
  have HW := Lib.hid (And.intro hxa (And.intro hba hs))
  clear hxa hba hs hwa
  have HOV : Go.RowKit.Hid (∀ W, Below w.heap.size w W → Calls Try.prog 11 #[.agg #[nm, pa, lo, .slice oa L cap], .int .i64 0, .slice none 0 0] W fun e w' => OverT g 0 [] W e w') := Lib.hid (fun W hb => by
    obtain ⟨hB, hL⟩ := HA.out
    have h := over_any w.heap.size ⟨nm, pa, lo, oa, cap, g⟩ 0 none 0 [] W (hB.below hb (Nat.le_refl _)) (fun h => absurd h (by simp)) hb.size
    unfold Bv.v Bv.cs at h
    simp only [← hL] at h
    exact h)
  go_upto_region 4 with (go_at_call 10; refine (works_any _).mono ?_; rintro e w1 ⟨rfl, h1⟩; have hx1 := HW.out.1.below h1 HW.out.1.lt; have e0 := hx1.cell 0; have e1 := hx1.cell 1; have e2 := hx1.cell 2; have e3 := hx1.cell 3; have H1 := Lib.hid (And.intro hx1 (HW.out.2.1.trans (h1.mono HW.out.2.1.size))); simp at e0 e1 e2 e3; clear h1 hx1)
  go_upto_region 5 with (go_at_call 11; refine (HOV.out _ H1.out.2).mono ?_; clear e0 e1 e2 e3; rintro e w2 ⟨h2, o, rfl, ho⟩)
  have hx2 := H1.out.1.below h2 H1.out.1.lt
  have e0 := hx2.cell 0
  have e1 := hx2.cell 1
  have e2 := hx2.cell 2
  have e3 := hx2.cell 3
  simp at e0 e1 e2 e3
  have H2 := Lib.hid (And.intro hx2 (And.intro (H1.out.2.trans (h2.mono H1.out.2.size)) ho))
  clear h2 hx2 ho HOV
  cases o with
  | true =>
    go_wp2
    go_ret
    exact ⟨rfl, H2.out.2.1⟩
  | false =>
    have hsm := (small_of (B := ⟨nm, pa, lo, oa, cap, g⟩) (H2.out.2.2 rfl)).1
    have hL30 : L ≤ 30 := by rw [HA.out.2]; exact (H2.out.2.2 rfl).1
    have HS := Lib.hid hsm
    clear hsm
    have HC : Go.RowKit.Hid (∀ W, Below w.heap.size w W →
        (Calls Try.prog 18 #[.agg #[nm, pa, lo, .slice oa L cap]] W fun e w' => ∃ pr vs base, e = .returned (.slice (some ⟨pr, 0, none⟩) L L) ∧ Below W.heap.size W w' ∧ vs.length = L ∧ PdAt w' base pr vs (prdK g L)) ∧
        (Calls Try.prog 19 #[.agg #[nm, pa, lo, .slice oa L cap]] W fun e w' => ∃ pr vs base, e = .returned (.slice (some ⟨pr, 0, none⟩) L L) ∧ Below W.heap.size W w' ∧ vs.length = L ∧ PdAt w' base pr vs (prdK g L)) ∧
        (Calls Try.prog 20 #[.agg #[nm, pa, lo, .slice oa L cap]] W fun e w' => ∃ rb V, e = .returned (.slice (some ⟨rb, 0, none⟩) L L) ∧ Below W.heap.size W w' ∧ Bx w' rb 4 (bC V) ∧ V.length = L ∧ ∀ i, i < L → (bitF V i = true ↔ Rch g i)) ∧
        (Calls Try.prog 21 #[.agg #[nm, pa, lo, .slice oa L cap]] W fun e w' => ∃ rb V, e = .returned (.slice (some ⟨rb, 0, none⟩) L L) ∧ Below W.heap.size W w' ∧ Bx w' rb 4 (bC V) ∧ V.length = L ∧ ∀ i, i < L → (bitF V i = true ↔ Rch g i))) := Lib.hid (fun W hb => by
      obtain ⟨hB, hL⟩ := HA.out
      have hsm := HS.out
      have hBW := hB.below hb (Nat.le_refl _)
      have k1 := preds_any w.heap.size ⟨nm, pa, lo, oa, cap, g⟩ W hBW hsm hb.size
      have k2 := rpreds_any w.heap.size ⟨nm, pa, lo, oa, cap, g⟩ W hBW hsm hb.size
      have k3 := reach_any w.heap.size ⟨nm, pa, lo, oa, cap, g⟩ W hBW hsm hb.size
      have k4 := rreach_any w.heap.size ⟨nm, pa, lo, oa, cap, g⟩ W hBW hsm hb.size
      unfold PredsT at k1 k2
      unfold Bv.v Bv.cs at k1 k2 k3 k4
      simp only [← hL] at k1 k2 k3 k4
      exact ⟨k1.mono fun e w' ⟨pr, vs, base, h1, h2, h3, h4, h5, h6⟩ => ⟨pr, vs, base, h1, h4, h5, h6⟩, k2.mono fun e w' ⟨pr, vs, base, h1, h2, h3, h4, h5, h6⟩ => ⟨pr, vs, base, h1, h4, h5, h6⟩,
        k3.mono fun e w' ⟨rb, V, h1, h2, h3, h4, h5, h6⟩ => ⟨rb, V, h1, h3, h4, h5, h6⟩, k4.mono fun e w' ⟨rb, V, h1, h2, h3, h4, h5, h6⟩ => ⟨rb, V, h1, h3, h4, h5, h6⟩⟩)
    go_upto_region 7 with fail
    go_upto_region 8 with (go_at_call 18; refine (HC.out _ H2.out.2.1).1.mono ?_; clear e0 e1 e2 e3; rintro e w3 ⟨p1, vs1, base1, rfl, k1, k2, k3⟩)
    have hx3 := H2.out.1.below k1 H2.out.1.lt
    have hb3 := H2.out.2.1.trans (k1.mono H2.out.2.1.size)
    have e0 := hx3.cell 0
    have e1 := hx3.cell 1
    have e2 := hx3.cell 2
    have e3 := hx3.cell 3
    simp at e0 e1 e2 e3
    have H3 := Lib.hid (And.intro hx3 (And.intro hb3 (And.intro k2 k3)))
    clear hx3 hb3 k1 k2 k3
    go_upto_region 9 with (go_at_call 19; refine (HC.out _ H3.out.2.1).2.1.mono ?_; clear e0 e1 e2 e3; rintro e w4 ⟨p2, vs2, base2, rfl, k1, k2, k3⟩)
    have hx4 := H3.out.1.below k1 H3.out.1.lt
    have hb4 := H3.out.2.1.trans (k1.mono H3.out.2.1.size)
    have e0 := hx4.cell 0
    have e1 := hx4.cell 1
    have e2 := hx4.cell 2
    have e3 := hx4.cell 3
    simp at e0 e1 e2 e3
    have H4 := Lib.hid (And.intro hx4 (And.intro hb4 (And.intro k2 (And.intro k3 (H3.out.2.2.2.below k1)))))
    clear hx4 hb4 k1 k2 k3
    go_upto_region 10 with (go_at_call 20; refine (HC.out _ H4.out.2.1).2.2.1.mono ?_; clear e0 e1 e2 e3; rintro e w5 ⟨r1, V1, rfl, k1, k2, k3, k4⟩)
    have hx5 := H4.out.1.below k1 H4.out.1.lt
    have hb5 := H4.out.2.1.trans (k1.mono H4.out.2.1.size)
    have e0 := hx5.cell 0
    have e1 := hx5.cell 1
    have e2 := hx5.cell 2
    have e3 := hx5.cell 3
    simp at e0 e1 e2 e3
    have H5 := Lib.hid (And.intro hx5 (And.intro hb5 (And.intro k2 (And.intro k3 (And.intro k4 (And.intro (H4.out.2.2.2.1.below k1) (H4.out.2.2.2.2.below k1)))))))
    clear hx5 hb5 k1 k2 k3 k4
    go_upto_region 11 with (go_at_call 21; refine (HC.out _ H5.out.2.1).2.2.2.mono ?_; clear e0 e1 e2 e3; rintro e w6 ⟨r2, V2, rfl, k1, k2, k3, k4⟩)
    have hZ : Below w.heap.size w w6 ∧ vs1.length = L ∧ vs2.length = L ∧ PdAt w6 base1 p1 vs1 (prdK g L) ∧ PdAt w6 base2 p2 vs2 (prdK g L) ∧ Bx w6 r1 4 (bC V1) ∧ Bx w6 r2 4 (bC V2) ∧ V1.length = L ∧ V2.length = L ∧ ∀ i, i < L → V2[i]?.getD false = V1[i]?.getD false := by
      obtain ⟨hx5, hb5, q2, q3, q4, q5, q6⟩ := H5.out
      refine ⟨hb5.trans (k1.mono hb5.size), H3.out.2.2.1, H4.out.2.2.1, q6.below k1, q5.below k1, q2.below k1 q2.lt, k2, q3, k3, fun i hi => ?_⟩
      have h1 := q4 i hi
      have h2 := k4 i hi
      unfold bitF at h1 h2
      cases e1 : V2[i]?.getD false <;> cases e2 : V1[i]?.getD false
      · rfl
      · exact absurd (h2.2 (h1.1 e2)) (by rw [e1]; simp)
      · exact absurd (h1.2 (h2.1 e1)) (by rw [e2]; simp)
      · rfl
    have HZ := Lib.hid hZ
    clear hZ k1 k2 k3 k4 HC
    go_wp2
    go_loopw [9] (fun u wr => ∃ i : Nat, i ≤ L ∧ u = .int .i64 i ∧ Below w6.heap.size w6 wr) (fun u _ => L - (intOf u).toNat)
    case atStart => exact ⟨0, Nat.zero_le _, rfl, Below.refl _ _⟩
    case round =>
      obtain ⟨i, hi, rfl, hbr⟩ := hrel
      obtain ⟨wo, rfl⟩ : ∃ wo : World, wo = wr := ⟨_, rfl⟩
      by_cases hli : i < L
      · obtain ⟨hb6, hl1, hl2, pd1, pd2, bx1, bx2, hv1, hv2, hvv⟩ := HZ.out
        obtain ⟨ou, cu, c1, r1'⟩ := pd1.read (i := i) (by omega)
        obtain ⟨ov, cv, c2, r2'⟩ := pd2.read (i := i) (by omega)
        have c3 := bx1.cell i
        have c4 := bx2.cell i
        rw [bC_get (by omega)] at c3 c4
        rw [hvv i hli] at c4
        obtain ⟨b, hb⟩ : ∃ b, b = V1[i]?.getD false := ⟨_, rfl⟩
        rw [← hb] at c3 c4
        obtain ⟨n, hn⟩ : ∃ n, n = (prdK g L i).length := ⟨_, rfl⟩
        rw [← hn] at c1 c2
        have hn1 : n ≤ 30 := by
          have := prdK_len g L i
          omega
        have d1 := below_cell hbr c1
        have d2 := below_cell hbr c2
        have d3 := below_cell hbr c3
        have d4 := below_cell hbr c4
        have HI := Lib.hid (And.intro c1 (And.intro c2 (And.intro r1' (And.intro r2' (And.intro hn hbr)))))
        clear hb6 hl1 hl2 pd1 pd2 bx1 bx2 hv1 hv2 hvv c1 c2 c3 c4 r1' r2' hb hn hbr
        go_upto_region 16 with fail
        go_cut [65] (fun s65 wc => s65 = .bool false ∧ Below w6.heap.size w6 wc)
        case first =>
          cases b
          · go_region
            all_goals (go_wp2_with fail; go_meet; exact ⟨by simp, HI.out.2.2.2.2.2.drew⟩)
          · go_region
            all_goals (go_wp2_with fail; go_meet; exact ⟨by simp, HI.out.2.2.2.2.2.drew⟩)
        case rest =>
          obtain ⟨hs65, hb16⟩ := hcut
          subst hs65
          have HB := Lib.hid hb16
          clear hb16 d1 d2 d3 d4
          go_wp2
          go_loopw [10] (fun u wr => ∃ k : Nat, k ≤ n ∧ u = .int .i64 k ∧ Below w6.heap.size w6 wr) (fun u _ => n - (intOf u).toNat)
          case atStart => exact ⟨0, Nat.zero_le _, rfl, HB.out⟩
          case round =>
            obtain ⟨k, hk, rfl, hbk⟩ := hrel
            obtain ⟨wp, rfl⟩ : ∃ wp : World, wp = wr := ⟨_, rfl⟩
            obtain ⟨c1, c2, r1', r2', hn, hbr⟩ := HI.out
            have d1 := below_cell hbk c1
            have d2 := below_cell hbk c2
            by_cases hlk : k < n
            · obtain ⟨ga, rfl, c5⟩ := r1' k (by omega)
              obtain ⟨gb, rfl, c6⟩ := r2' k (by omega)
              have d5 := below_cell hbk c5
              have d6 := below_cell hbk c6
              obtain ⟨x, hx⟩ : ∃ x, x = (prdK g L i)[k]'(by omega) := ⟨_, rfl⟩
              rw [← hx] at d5 d6
              have HJ := Lib.hid hbk
              clear c1 c2 r1' r2' hn hbr c5 c6 hx hbk
              go_upto_region 21 with fail
              go_cut [89] (fun s89 wc => s89 = .bool false ∧ Below w6.heap.size w6 wc)
              case first =>
                go_region
                all_goals (go_wp2_with fail; go_meet; exact ⟨by simp, HJ.out.drew⟩)
              case rest =>
                obtain ⟨hs89, hb21⟩ := hcut
                subst hs89
                have HB2 := Lib.hid hb21
                clear hb21 d1 d2 d5 d6
                go_wp2
                go_roundw
                case rel => first | exact ⟨k + 1, hlk, nxt _, HB2.out⟩ | ((repeat apply Exists.intro); exact ⟨⟨k + 1, hlk, nxt _, HB2.out⟩, rfl⟩)
                case measure => exact meas hlk
            · obtain rfl : k = n := last hk hlk
              have HJ := Lib.hid hbk
              clear c1 c2 r1' r2' hn hbr hbk
              go_wp2
              go_roundw
              case rel => first | exact ⟨i + 1, hli, nxt _, HJ.out⟩ | ((repeat apply Exists.intro); exact ⟨⟨i + 1, hli, nxt _, HJ.out⟩, rfl⟩)
              case measure => exact meas hli
      · obtain rfl : i = L := last hi hli
        have HJ := Lib.hid (HZ.out.1.trans (hbr.mono HZ.out.1.size))
        clear hbr
        go_wp2
        go_ret
        exact ⟨rfl, HJ.out⟩
end Go.Proofs.Ythfdomgkmfcolaa
