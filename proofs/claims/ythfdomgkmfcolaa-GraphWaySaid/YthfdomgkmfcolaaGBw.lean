/-
  GraphBackWay's walk. Conditions: the arguments lie in the heap.
-/
import Derived.Test.YthfdomgkmfcolaaGTo
import Derived.Test.YthfdomgkmfcolaaGMarked
namespace Go.Proofs.Ythfdomgkmfcolaa
open Go Go.RowKit

/-- What is so between two rounds. -/
def BwS (w3 : World) (nb : Nat) (un : Value) (k : Nat) (wr : World) : Prop := (∃ xs : List Bool, xs.length = k ∧ wr.ownsRow nb 4 1 un k (bC xs)) ∧ Below w3.heap.size w3 wr
theorem BwS.below {w3 : World} {nb : Nat} {un : Value} {k : Nat} {wr w' : World} (h : BwS w3 nb un k wr) (hB : Below wr.heap.size wr w') : BwS w3 nb un k w' := by
  obtain ⟨⟨xs, h1, h2⟩, h3⟩ := h
  exact ⟨⟨xs, h1, own_kep h2 (Kep.of_below (M := fun _ => False) hB) (fun _ _ h => h)⟩, h3.trans (hB.mono h3.size)⟩
theorem BwS.drew {w3 : World} {nb : Nat} {un : Value} {k : Nat} {wr : World} (h : BwS w3 nb un k wr) : BwS w3 nb un k wr.drew := h.below (Below.refl _ _).drew
/-- What is needed ahead of a step. -/
theorem back_step {g : Gb} {n : Nat} {C : List Chg} {Z : List (List (List Bool))} (h : BkS g n C Z) {i k j : Nat} (hi : i < g.length) (hk : k < insR g i + 1) (hj : j < n) : valZ Z i k j = (mkF C i k j true || valZ Z i (k + 1) j && !(mkF C i k j false)) := by
  have hok : okS g i k = true := by simp [okS, isPl]; omega
  have e : ∀ v : Bool, (rlF g n C ((i : Int), (k : Int), v)).any (fun t => t.toNat == j) = mkF C i k j v := fun v => by
    have h1 : (rlF g n C ((i : Int), (k : Int), v)).any (fun t => t.toNat == j) = true ↔ mkF C i k j v = true := by
      rw [rlF_any, mkF_iff]
      exact ⟨fun ⟨_, c, hc, h1, h2, _, h3⟩ => ⟨c, hc, h1, h2, h3⟩, fun ⟨c, hc, h1, h2, h3⟩ => ⟨hok, c, hc, h1, h2, hj, h3⟩⟩
    cases h2 : (rlF g n C ((i : Int), (k : Int), v)).any (fun t => t.toNat == j) <;> cases h3 : mkF C i k j v
    · rfl
    · exact absurd (h1.2 h3) (by rw [h2]; simp)
    · exact absurd (h1.1 h2) (by rw [h3]; simp)
    · rfl
  show (stateZ Z i k)[j]?.getD false = (mkF C i k j true || (stateZ Z i (k + 1))[j]?.getD false && !(mkF C i k j false))
  rw [h.step i k hi hk, stepF_get _ _ _ _ _ _ _ (by rw [h.row i (k + 1) hi (by omega)]; exact hj), e, e]
  cases mkF C i k j true <;> cases mkF C i k j false <;> cases (stateZ Z i (k + 1))[j]?.getD false <;> rfl
theorem wrapP2 (m : Nat) (h : m ≤ 1000) : IntKind.i64.wrap ((m : Int) + 2) = m + 2 := by rw [IntKind.wrap_i64]; omega
theorem wrapP1 (m : Nat) (h : m ≤ 1000) : IntKind.i64.wrap ((m : Int) + 1) = m + 1 := by rw [IntKind.wrap_i64]; omega
theorem wrapS (m : Nat) (h : m ≤ 1000) : IntKind.i64.wrap ((m : Int) + 2 - 1) = m + 1 := by rw [IntKind.wrap_i64]; omega
theorem idx_of (x : Int) (n : Nat) (hn : 0 < n) (hx : -9223372036854775808 ≤ x ∧ x ≤ 9223372036854775807) (h1 : n ≤ 1000) : 0 ≤ (x.tmod n + n).tmod n ∧ (x.tmod n + n).tmod n < n ∧ -1000 < x.tmod n ∧ x.tmod n < 1000 := by
  have a1 := Int.tmod_lt_of_pos x (show (0 : Int) < n by omega)
  have a2 : -(n : Int) < x.tmod n := by
    rcases Int.le_total 0 x with h | h
    · have := Int.tmod_nonneg (n : Int) h
      omega
    · have h2 := Int.tmod_lt_of_pos (-x) (show (0 : Int) < n by omega)
      rw [Int.neg_tmod] at h2
      omega
  have a3 := Int.tmod_lt_of_pos (x.tmod n + n) (show (0 : Int) < n by omega)
  have a4 := Int.tmod_nonneg (n : Int) (show 0 ≤ x.tmod n + n by omega)
  exact ⟨a4, a3, by omega, by omega⟩

set_option maxRecDepth 100000 in
set_option maxHeartbeats 8000000 in
theorem graphBackWay_walk (B : Bv) (ni : Int) (oc : Option Addr) (capC : Nat) (C : List Chg) (vW : Value) (way : List Int) (ji : Int) (w : World)
    (hB : B.At w.heap.size w) (hgl : B.g.length ≤ maxLen) (hC : CRow w.heap.size w oc C) (hcl : C.length ≤ maxLen) (hW : IRow w.heap.size w vW way) (hwl : way.length ≤ maxLen) (hww : ∀ z ∈ way, (Lit.int .i64 z).wf = true) (hji : -9223372036854775808 ≤ ji ∧ ji ≤ 9223372036854775807) :
    Calls Try.prog 8 #[B.v, .int .i64 ni, .slice oc C.length capC, vW, .int .i64 ji] w fun e w' => e = .returned (.bool true) ∧ Below w.heap.size w w' := by
  obtain ⟨nm, pa, lo, oa, cap, g⟩ := B
  simp only at hgl ⊢
  obtain ⟨L, hL⟩ : ∃ L, L = g.length := ⟨_, rfl⟩
  obtain ⟨kC, hnC⟩ : ∃ k, k = C.length := ⟨_, rfl⟩
  obtain ⟨oW, cW, rfl, hWc⟩ := hW
  obtain ⟨nW, hnW⟩ : ∃ k, k = way.length := ⟨_, rfl⟩
  unfold maxLen at hgl hcl hwl
  have bW : nW ≤ 9223372036854775807 := by omega
  have bL : L ≤ 9223372036854775807 := by omega
  rw [← hnC, ← hnW]
  rw [← hnW] at hWc
  have HA := Lib.hid (And.intro hB (And.intro hC (And.intro hL (And.intro hnC (And.intro hnW (And.intro hWc hww))))))
  unfold Bv.v Bv.cs
  simp only [← hL]
  clear hB hC hL hnC hnW hWc hww hgl hcl hwl
  go_enter Try.func8, Try.ntmps8
  go_upto_region 1 with fail
  obtain ⟨wa, hwa⟩ : ∃ wa, wa = w.alloc (.cells #[nm, pa, lo, .slice oa L cap] 25) := ⟨_, rfl⟩
  obtain ⟨s, hs⟩ : ∃ s, s = w.heap.size := ⟨_, rfl⟩
  rw [← hwa, ← hs]
  have hxa : Bx wa s 25 [nm, pa, lo, .slice oa L cap] := by
    rw [hwa, hs]
    exact Bx.new w _ [nm, pa, lo, .slice oa L cap]
  have hba : Below w.heap.size w wa := by
    rw [hwa]
    exact (Below.refl _ _).alloc (Nat.le_refl _) _
  have HW := Lib.hid (And.intro hxa (And.intro hba hs))
  clear hxa hba hs hwa
  have HOV : Go.RowKit.Hid (∀ W, Below w.heap.size w W → Calls Try.prog 11 #[.agg #[nm, pa, lo, .slice oa L cap], .int .i64 ni, .slice oc kC capC] W fun e w' => OverT g ni C W e w') := Lib.hid (fun W hb => by
    obtain ⟨hB, hC, hL, hnC, -⟩ := HA.out
    have h := over_any w.heap.size ⟨nm, pa, lo, oa, cap, g⟩ ni oc capC C W (hB.below hb (Nat.le_refl _)) (hC.below hb (Nat.le_refl _)) hb.size
    unfold Bv.v Bv.cs at h
    simp only [← hL, ← hnC] at h
    exact h)
  go_upto_region 4 with (go_at_call 10; refine (works_any _).mono ?_; rintro e w1 ⟨rfl, h1⟩; have hx1 := HW.out.1.below h1 HW.out.1.lt; have e0 := hx1.cell 0; have e1 := hx1.cell 1; have e2 := hx1.cell 2; have e3 := hx1.cell 3; have H1 := Lib.hid (And.intro hx1 (HW.out.2.1.trans (h1.mono HW.out.2.1.size))); simp at e0 e1 e2 e3; clear h1 hx1)
  go_upto_region 5 with (go_at_call 11; refine (HOV.out _ H1.out.2).mono ?_; clear e0 e1 e2 e3; rintro e w2 ⟨h2, o, rfl, ho⟩)
  have hx2 := H1.out.1.below h2 H1.out.1.lt
  have e0 := hx2.cell 0
  have e1 := hx2.cell 1
  have e2 := hx2.cell 2
  have e3 := hx2.cell 3
  simp at e0 e1 e2 e3
  have H2 := Lib.hid (And.intro hx2 (And.intro (H1.out.2.trans (h2.mono H1.out.2.size)) ho))
  clear h2 hx2 ho HOV
  cases o with
  | true => as_aux_lemma =>
    go_wp2
    go_ret
    exact ⟨rfl, H2.out.2.1⟩
  | false => as_aux_lemma =>
    by_cases c1 : 30 < nW
    · go_wp2
      go_ret
      exact ⟨rfl, H2.out.2.1⟩
    by_cases c2 : L = 0
    · subst c2
      go_wp2
      go_ret
      exact ⟨rfl, H2.out.2.1⟩
    by_cases c3 : ji < 0
    · go_wp2
      go_ret
      exact ⟨rfl, H2.out.2.1⟩
    by_cases c4 : ni ≤ ji
    · go_wp2
      go_ret
      exact ⟨rfl, H2.out.2.1⟩
    have hsm := small_of (B := ⟨nm, pa, lo, oa, cap, g⟩) (H2.out.2.2 rfl)
    have hb30 := H2.out.2.2 rfl
    have HS := Lib.hid (And.intro hsm hb30)
    have hn30 : ni ≤ 30 := hb30.2.1
    have hL30 : L ≤ 30 := by rw [HA.out.2.2.1]; exact hb30.1
    have hL0 : 0 < L := by omega
    obtain ⟨j, rfl⟩ : ∃ j : Nat, ji = j := ⟨ji.toNat, by omega⟩
    obtain ⟨n, rfl⟩ : ∃ n : Nat, ni = n := ⟨ni.toNat, by omega⟩
    have hjn : j < n := by omega
    have hn1 : n ≤ 30 := by omega
    have hW30 : nW ≤ 30 := by omega
    clear hsm hb30 bW bL hji hn30
    have cL : ((L : Int) == 0) = false := by simp; omega
    have c6 : ¬ ((n : Int) ≤ (j : Int)) := by omega
    go_upto_region 7 with fail
    clear c1 c2 c3 c4 cL c6
    have HBK : Go.RowKit.Hid (Calls Try.prog 16 #[.agg #[nm, pa, lo, .slice oa L cap], .int .i64 n, .slice oc kC capC] w2 fun e w' => BackZ g n C w2 e w') := Lib.hid (by
      obtain ⟨hB, hC, hL, hnC, -⟩ := HA.out
      have hbw := H2.out.2.1
      have h := backZ_any w.heap.size ⟨nm, pa, lo, oa, cap, g⟩ n oc capC C w2 (hB.below hbw (Nat.le_refl _)) HS.out.1.1 (hC.below hbw (Nat.le_refl _)) HS.out.1.2.1 HS.out.1.2.2 hbw.size
      unfold Bv.v Bv.cs at h
      simp only [← hL, ← hnC, Int.toNat_natCast] at h
      exact h)
    go_upto_region 9 with (go_at_call 16; refine HBK.out.mono ?_; clear HBK e0 e1 e2 e3; rintro e w3 ⟨v1, X, rfl, k1, k2, k3⟩)
    have hXl : X.length = L := by rw [k3.len, HA.out.2.2.1]
    obtain ⟨oX, capX, hv1⟩ := k2.form
    rw [hXl] at hv1
    subst hv1
    have HX := Lib.hid (And.intro k2 (And.intro k3 (And.intro hXl (And.intro (H2.out.1.below k1 H2.out.1.lt) (H2.out.2.1.trans (k1.mono H2.out.2.1.size))))))
    clear k1 k2 k3 hXl
    have hmk := make_bools 0 (Nat.zero_le _) w3
    simp only [Int.natCast_zero, List.replicate_zero, bC, List.map_nil] at hmk
    go_upto_region 10 with fail
    clear hmk
    obtain ⟨w4, hw4⟩ : ∃ w4, w4 = w3.alloc (.cells #[] 4) := ⟨_, rfl⟩
    obtain ⟨nb, hnb⟩ : ∃ nb, nb = w3.heap.size := ⟨_, rfl⟩
    rw [← hw4, ← hnb]
    have hb34 : Below w3.heap.size w3 w4 := by
      rw [hw4]
      exact (Below.refl _ _).alloc (Nat.le_refl _) _
    have hon : w4.ownsRow nb 4 1 (.slice (some ⟨nb, 0, none⟩) 0 0) 0 [] := by
      refine ⟨rfl, .inr ⟨nb, 0, #[], rfl, Nat.le_refl _, ?_, Nat.le_refl _, Nat.zero_le _, ?_, ?_⟩⟩
      · rw [hw4, hnb]
        exact World.alloc_heap_new w3 _
      · rfl
      · rfl
    have HZ : Go.RowKit.Hid (BwS w3 nb (.slice (some ⟨nb, 0, none⟩) 0 0) 0 w4) := Lib.hid ⟨⟨[], rfl, hon⟩, hb34⟩
    have hnbl : w3.heap.size ≤ nb := by omega
    have HNB := Lib.hid hnbl
    have HZ0 := Lib.hid (show nb ≤ w3.heap.size by omega)
    clear hon hb34 hw4 hnb hnbl
    obtain ⟨i3, hi3, hz3, hs3, hb3⟩ := info_parts infoBool
    have HI3 := Lib.hid (And.intro hi3 (And.intro hz3 (And.intro hs3 hb3)))
    clear hi3 hz3 hs3 hb3
    have HMK : Go.RowKit.Hid (∀ W (a q : Nat), Below w.heap.size w W → (Calls Try.prog 24 #[.slice oc kC capC, .int .i64 (a : Int), .int .i64 (q : Int), .int .i64 (j : Int), .bool true] W fun e w' => e = .returned (.bool (mkF C a q j true)) ∧ w' = W) ∧
        (Calls Try.prog 24 #[.slice oc kC capC, .int .i64 (a : Int), .int .i64 (q : Int), .int .i64 (j : Int), .bool false] W fun e w' => e = .returned (.bool (mkF C a q j false)) ∧ w' = W)) := Lib.hid (fun W a q hb => by
      obtain ⟨hB, hC, hL, hnC, -⟩ := HA.out
      have hcs := HS.out.1.2.1
      rw [hnC]
      exact ⟨markedG_any w.heap.size oc capC C a q j W (hC.below hb (Nat.le_refl _)) hcs.2 (by have := hcs.1; omega), markedK_any w.heap.size oc capC C a q j W (hC.below hb (Nat.le_refl _)) hcs.2 (by have := hcs.1; omega)⟩)
    go_wp2
    go_loopw [14, 15, 16] (fun ua un uw wr => ∃ (k a : Nat), k ≤ nW ∧ uw = .int .i64 k ∧ a < L ∧ ua = .int .i64 a ∧ BwS w3 nb un k wr) (fun _ _ uw _ => nW + 1 - (intOf uw).toNat)
    case atStart => exact ⟨0, 0, Nat.zero_le _, rfl, hL0, rfl, HZ.out⟩
    case round =>
      obtain ⟨k, a, hk, rfl, ha, rfl, hst⟩ := hrel
      obtain ⟨wo, rfl⟩ : ∃ wo : World, wo = wr := ⟨_, rfl⟩
      obtain ⟨hX, fX, hXl, hxs, hb3w⟩ := HX.out
      obtain ⟨bX, pX, ou, cu, rfl, c1, r1⟩ := hX.row (i := a) (by omega)
      have hag : a < g.length := by rw [← HA.out.2.2.1]; exact ha
      obtain ⟨m, hm⟩ : ∃ m, m = insR g a := ⟨_, rfl⟩
      have hcnt : (rowZ X a).length = m + 2 := by rw [fX.cnt a hag, hm]
      rw [hcnt] at c1 r1
      have hm1 : m ≤ 30 := by rw [hm]; exact (HS.out.2.2.2.2.1 a hag).1
      have hbo : Below w.heap.size w wo := hb3w.trans (hst.2.mono hb3w.size)
      obtain ⟨bl, fl, hoa, -, hrow⟩ := (HA.out.1.below hbo (Nat.le_refl _)) (by show 0 < g.length; omega)
      have hoa' : oa = some ⟨bl, fl, none⟩ := hoa
      subst hoa'
      obtain ⟨⟨ia, ic, cB⟩, -⟩ := hrow a hag
      rw [← hm] at cB
      have hx0 := hxs.below hst.2 hxs.lt
      have cS := hx0.cell 3
      simp at cS
      have d1 := below_cell hst.2 c1
      have HO := Lib.hid (And.intro c1 (And.intro r1 (And.intro hcnt (And.intro hm (And.intro hag hst)))))
      clear hX fX hXl hxs hb3w c1 r1 hcnt hag hm hst hbo hoa hrow hx0
      go_upto_region 13 with fail
      have hSS := And.intro d1 (And.intro cS cB)
      · skip
        refine wp_region_held_drew (S := (fun w' => w'.cell? ⟨bX, pX + a, none⟩ = some (.slice ou (m + 2) cu) ∧ w'.cell? ⟨s, 3, none⟩ = some (.slice (some ⟨bl, fl, none⟩) L cap) ∧ w'.cell? ⟨bl, fl + a * 17, none⟩ = some (.slice ia m ic))) (by kernel_rfl) ?_ (fun hHeld => ?_)
        · exact hSS
        refine wpAnyH_take (i := 0) (oi := { dst := some 64, op := Op.move (Operand.tmp 14), type := 3, pos := "law.go:224", after := #[], guard := none }) (v := ?vq0_1) rfl (by kernel_rfl) (by kernel_rfl) (by kernel_rfl) (fun _ _ _ h => h) (Or.inl ⟨by rfl, ?hq0_1⟩) (by assumption) ?_
        case hq0_1 => intro w hSw; (try dsimp only at hSw); go_simp; try (with_reducible rfl)
        (try simp only [Act.put, List.setIfInBounds_toArray, List.set_cons_zero, List.set_cons_succ])
        refine wpAnyH_take (i := 1) (oi := { dst := some 65, op := Op.move (Operand.tmp 13), type := 31, pos := "law.go:224", after := #[], guard := none }) (v := ?vq1_2) rfl (by kernel_rfl) (by kernel_rfl) (by kernel_rfl) (fun _ _ _ h => h) (Or.inl ⟨by rfl, ?hq1_2⟩) (by assumption) ?_
        case hq1_2 => intro w hSw; (try dsimp only at hSw); go_simp; try (with_reducible rfl)
        (try simp only [Act.put, List.setIfInBounds_toArray, List.set_cons_zero, List.set_cons_succ])
        refine wpAnyH_take (i := 2) (oi := { dst := some 66, op := Op.call { callee := Callee.builtin Builtin.len, args := #[Operand.tmp 65], argTypes := #[31] }, type := 3, pos := "law.go:224", after := #[{ on := 1, ground := Ground.data }], guard := none }) (v := ?vq2_3) rfl (by kernel_rfl) (by kernel_rfl) (by kernel_rfl) (fun _ _ _ h => h) (Or.inl ⟨by rfl, ?hq2_3⟩) (by assumption) ?_
        case hq2_3 => intro w hSw; (try dsimp only at hSw); go_simp; try (with_reducible rfl)
        (try simp only [Act.put, List.setIfInBounds_toArray, List.set_cons_zero, List.set_cons_succ])
        refine wpAnyH_take (i := 3) (oi := { dst := some 67, op := Op.binOp BinOp.geq 3 (Operand.tmp 64) (Operand.tmp 66) 3, type := 4, pos := "law.go:224", after := #[{ on := 0, ground := Ground.data }, { on := 2, ground := Ground.data }], guard := none }) (v := .bool false) rfl (by kernel_rfl) (by kernel_rfl) (by kernel_rfl) (fun _ _ _ h => h) (Or.inl ⟨by rfl, ?hq3_4⟩) (by assumption) ?_
        case hq3_4 => intro w hSw; (try dsimp only at hSw); go_simp; try (simp; try omega)
        (try simp only [Act.put, List.setIfInBounds_toArray, List.set_cons_zero, List.set_cons_succ])
        refine wpAnyH_take (i := 4) (oi := { dst := some 68, op := Op.move (Operand.tmp 67), type := 4, pos := "law.go:224", after := #[{ on := 3, ground := Ground.data }], guard := none }) (v := ?vq4_5) rfl (by kernel_rfl) (by kernel_rfl) (by kernel_rfl) (fun _ _ _ h => h) (Or.inl ⟨by rfl, ?hq4_5⟩) (by assumption) ?_
        case hq4_5 => intro w hSw; (try dsimp only at hSw); go_simp; try (with_reducible rfl)
        (try simp only [Act.put, List.setIfInBounds_toArray, List.set_cons_zero, List.set_cons_succ])
        refine wpAnyH_take (i := 5) (oi := { dst := some 69, op := Op.move (Operand.tmp 13), type := 31, pos := "law.go:224", after := #[{ on := 4, ground := Ground.guard }], guard := some (4, false) }) (v := ?vq5_6) rfl (by kernel_rfl) (by kernel_rfl) (by kernel_rfl) (fun _ _ _ h => h) (Or.inl ⟨by rfl, ?hq5_6⟩) (by assumption) ?_
        case hq5_6 => intro w hSw; (try dsimp only at hSw); go_simp; try (with_reducible rfl)
        (try simp only [Act.put, List.setIfInBounds_toArray, List.set_cons_zero, List.set_cons_succ])
        refine wpAnyH_take (i := 6) (oi := { dst := some 70, op := Op.move (Operand.tmp 14), type := 3, pos := "law.go:224", after := #[{ on := 4, ground := Ground.guard }], guard := some (4, false) }) (v := ?vq6_7) rfl (by kernel_rfl) (by kernel_rfl) (by kernel_rfl) (fun _ _ _ h => h) (Or.inl ⟨by rfl, ?hq6_7⟩) (by assumption) ?_
        case hq6_7 => intro w hSw; (try dsimp only at hSw); go_simp; try (with_reducible rfl)
        (try simp only [Act.put, List.setIfInBounds_toArray, List.set_cons_zero, List.set_cons_succ])
        refine wpAnyH_take (i := 7) (oi := { dst := some 71, op := Op.indexAddr 31 (Operand.tmp 69) (Operand.tmp 70), type := 0, pos := "law.go:224", after := #[{ on := 5, ground := Ground.data }, { on := 6, ground := Ground.data }, { on := 4, ground := Ground.guard }], guard := some (4, false) }) (v := ?vq7_8) rfl (by kernel_rfl) (by kernel_rfl) (by kernel_rfl) (fun _ _ _ h => h) (Or.inl ⟨by rfl, ?hq7_8⟩) (by assumption) ?_
        case hq7_8 => intro w hSw; (try dsimp only at hSw); go_simp; try (with_reducible rfl)
        (try simp only [Act.put, List.setIfInBounds_toArray, List.set_cons_zero, List.set_cons_succ])
        refine wpAnyH_take (i := 8) (oi := { dst := some 72, op := Op.load 44 (Operand.tmp 71), type := 44, pos := "law.go:224", after := #[{ on := 7, ground := Ground.data }, { on := 4, ground := Ground.guard }], guard := some (4, false) }) (v := ?vq8_9) rfl (by kernel_rfl) (by kernel_rfl) (by kernel_rfl) (fun _ _ _ h => h) (Or.inl ⟨by rfl, ?hq8_9⟩) (by assumption) ?_
        case hq8_9 => intro w hSw; (try dsimp only at hSw); go_simp; try (with_reducible rfl)
        (try simp only [Act.put, List.setIfInBounds_toArray, List.set_cons_zero, List.set_cons_succ])
        refine wpAnyH_take (i := 9) (oi := { dst := some 73, op := Op.call { callee := Callee.builtin Builtin.len, args := #[Operand.tmp 72], argTypes := #[44] }, type := 3, pos := "law.go:224", after := #[{ on := 8, ground := Ground.data }, { on := 4, ground := Ground.guard }], guard := some (4, false) }) (v := ?vq9_10) rfl (by kernel_rfl) (by kernel_rfl) (by kernel_rfl) (fun _ _ _ h => h) (Or.inl ⟨by rfl, ?hq9_10⟩) (by assumption) ?_
        case hq9_10 => intro w hSw; (try dsimp only at hSw); go_simp; try (with_reducible rfl)
        (try simp only [Act.put, List.setIfInBounds_toArray, List.set_cons_zero, List.set_cons_succ])
        refine wpAnyH_take (i := 10) (oi := { dst := some 74, op := Op.fieldAddr 25 (Operand.tmp 5) 3, type := 0, pos := "law.go:224", after := #[{ on := 4, ground := Ground.guard }], guard := some (4, false) }) (v := ?vq10_11) rfl (by kernel_rfl) (by kernel_rfl) (by kernel_rfl) (fun _ _ _ h => h) (Or.inl ⟨by rfl, ?hq10_11⟩) (by assumption) ?_
        case hq10_11 => intro w hSw; (try dsimp only at hSw); go_simp; try (with_reducible rfl)
        (try simp only [Act.put, List.setIfInBounds_toArray, List.set_cons_zero, List.set_cons_succ])
        refine wpAnyH_take (i := 11) (oi := { dst := some 75, op := Op.load 23 (Operand.tmp 74), type := 23, pos := "law.go:224", after := #[{ on := 10, ground := Ground.data }, { on := 4, ground := Ground.guard }], guard := some (4, false) }) (v := ?vq11_12) rfl (by kernel_rfl) (by kernel_rfl) (by kernel_rfl) (fun _ _ _ h => h) (Or.inl ⟨by rfl, ?hq11_12⟩) (by assumption) ?_
        case hq11_12 => intro w hSw; (try dsimp only at hSw); go_simp; try (with_reducible rfl)
        (try simp only [Act.put, List.setIfInBounds_toArray, List.set_cons_zero, List.set_cons_succ])
        refine wpAnyH_take (i := 12) (oi := { dst := some 76, op := Op.move (Operand.tmp 14), type := 3, pos := "law.go:224", after := #[{ on := 4, ground := Ground.guard }], guard := some (4, false) }) (v := ?vq12_13) rfl (by kernel_rfl) (by kernel_rfl) (by kernel_rfl) (fun _ _ _ h => h) (Or.inl ⟨by rfl, ?hq12_13⟩) (by assumption) ?_
        case hq12_13 => intro w hSw; (try dsimp only at hSw); go_simp; try (with_reducible rfl)
        (try simp only [Act.put, List.setIfInBounds_toArray, List.set_cons_zero, List.set_cons_succ])
        refine wpAnyH_take (i := 13) (oi := { dst := some 77, op := Op.indexAddr 23 (Operand.tmp 75) (Operand.tmp 76), type := 0, pos := "law.go:224", after := #[{ on := 11, ground := Ground.data }, { on := 12, ground := Ground.data }, { on := 4, ground := Ground.guard }], guard := some (4, false) }) (v := ?vq13_14) rfl (by kernel_rfl) (by kernel_rfl) (by kernel_rfl) (fun _ _ _ h => h) (Or.inl ⟨by rfl, ?hq13_14⟩) (by assumption) ?_
        case hq13_14 => intro w hSw; (try dsimp only at hSw); go_simp; try (with_reducible rfl)
        (try simp only [Act.put, List.setIfInBounds_toArray, List.set_cons_zero, List.set_cons_succ])
        refine wpAnyH_take (i := 14) (oi := { dst := some 78, op := Op.fieldAddr 58 (Operand.tmp 77) 0, type := 0, pos := "law.go:224", after := #[{ on := 13, ground := Ground.data }, { on := 4, ground := Ground.guard }], guard := some (4, false) }) (v := ?vq14_15) rfl (by kernel_rfl) (by kernel_rfl) (by kernel_rfl) (fun _ _ _ h => h) (Or.inl ⟨by rfl, ?hq14_15⟩) (by assumption) ?_
        case hq14_15 => intro w hSw; (try dsimp only at hSw); go_simp; try (with_reducible rfl)
        (try simp only [Act.put, List.setIfInBounds_toArray, List.set_cons_zero, List.set_cons_succ])
        refine wpAnyH_take (i := 15) (oi := { dst := some 79, op := Op.load 45 (Operand.tmp 78), type := 45, pos := "law.go:224", after := #[{ on := 14, ground := Ground.data }, { on := 4, ground := Ground.guard }], guard := some (4, false) }) (v := ?vq15_16) rfl (by kernel_rfl) (by kernel_rfl) (by kernel_rfl) (fun _ _ _ h => h) (Or.inl ⟨by rfl, ?hq15_16⟩) (by assumption) ?_
        case hq15_16 => intro w hSw; (try dsimp only at hSw); go_simp; try (with_reducible rfl)
        (try simp only [Act.put, List.setIfInBounds_toArray, List.set_cons_zero, List.set_cons_succ])
        refine wpAnyH_take (i := 16) (oi := { dst := some 80, op := Op.call { callee := Callee.builtin Builtin.len, args := #[Operand.tmp 79], argTypes := #[45] }, type := 3, pos := "law.go:224", after := #[{ on := 15, ground := Ground.data }, { on := 4, ground := Ground.guard }], guard := some (4, false) }) (v := ?vq16_17) rfl (by kernel_rfl) (by kernel_rfl) (by kernel_rfl) (fun _ _ _ h => h) (Or.inl ⟨by rfl, ?hq16_17⟩) (by assumption) ?_
        case hq16_17 => intro w hSw; (try dsimp only at hSw); go_simp; try (with_reducible rfl)
        (try simp only [Act.put, List.setIfInBounds_toArray, List.set_cons_zero, List.set_cons_succ])
        refine wpAnyH_take (i := 17) (oi := { dst := some 81, op := Op.binOp BinOp.add 3 (Operand.tmp 80) (Operand.const (Value.int IntKind.i64 2)) 3, type := 3, pos := "law.go:224", after := #[{ on := 16, ground := Ground.data }, { on := 4, ground := Ground.guard }], guard := some (4, false) }) (v := .int .i64 ((m : Int) + 2)) rfl (by kernel_rfl) (by kernel_rfl) (by kernel_rfl) (fun _ _ _ h => h) (Or.inl ⟨by rfl, ?hq17_18⟩) (by assumption) ?_
        case hq17_18 => intro w hSw; (try dsimp only at hSw); go_simp; try rw [wrapP2 m (by omega)]
        (try simp only [Act.put, List.setIfInBounds_toArray, List.set_cons_zero, List.set_cons_succ])
        refine wpAnyH_take (i := 18) (oi := { dst := some 82, op := Op.binOp BinOp.neq 3 (Operand.tmp 73) (Operand.tmp 81) 3, type := 4, pos := "law.go:224", after := #[{ on := 9, ground := Ground.data }, { on := 17, ground := Ground.data }, { on := 4, ground := Ground.guard }], guard := some (4, false) }) (v := .bool false) rfl (by kernel_rfl) (by kernel_rfl) (by kernel_rfl) (fun _ _ _ h => h) (Or.inl ⟨by rfl, ?hq18_19⟩) (by assumption) ?_
        case hq18_19 => intro w hSw; (try dsimp only at hSw); go_simp; try (simp; try omega)
        (try simp only [Act.put, List.setIfInBounds_toArray, List.set_cons_zero, List.set_cons_succ])
        refine wpAnyH_take (i := 19) (oi := { dst := some 83, op := Op.pick (Operand.tmp 68) (Operand.const (Value.bool true)) (Operand.tmp 82), type := 4, pos := "law.go:224", after := #[{ on := 4, ground := Ground.data }, { on := 18, ground := Ground.data }], guard := none }) (v := ?vq19_20) rfl (by kernel_rfl) (by kernel_rfl) (by kernel_rfl) (fun _ _ _ h => h) (Or.inl ⟨by rfl, ?hq19_20⟩) (by assumption) ?_
        case hq19_20 => intro w hSw; (try dsimp only at hSw); go_simp; try (with_reducible rfl)
        (try simp only [Act.put, List.setIfInBounds_toArray, List.set_cons_zero, List.set_cons_succ])
        refine wpAnyH_done (by kernel_rfl) ?_ _
        have HB := Lib.hid (show BwS w3 nb u15 k wo.drew from HO.out.2.2.2.2.2.drew)
        clear d1 cS cB hSS
        go_wp2
        go_loopw [17] (fun uk wr => ∃ q : Nat, q ≤ m + 1 ∧ uk = .int .i64 q ∧ BwS w3 nb u15 k wr) (fun uk _ => m + 1 - (intOf uk).toNat)
        case atStart => exact ⟨0, Nat.zero_le _, rfl, HB.out⟩
        case round =>
          obtain ⟨q, hq, rfl, hsq⟩ := hrel
          obtain ⟨wp, rfl⟩ : ∃ wp : World, wp = wr := ⟨_, rfl⟩
          obtain ⟨c1, r1, hcnt, hm, hag, hst⟩ := HO.out
          have d1 := below_cell hsq.2 c1
          by_cases hlq : q < m + 1
          · as_aux_lemma =>
              have fX := HX.out.2.1
              obtain ⟨bU, pU, ox, cx, rfl, c3, r3⟩ := r1.row (i := q) (by omega)
              obtain ⟨bV, pV, oy, cy, he, c4, r4⟩ := r1.row (i := q + 1) (by omega)
              cases he
              have hl3 : ((rowZ X a)[q]?.getD []).length = n := fX.row a q hag (by omega)
              have hl4 : ((rowZ X a)[q + 1]?.getD []).length = n := fX.row a (q + 1) hag (by omega)
              rw [hl3] at c3 r3
              rw [hl4] at c4 r4
              obtain ⟨bA, pA, rfl, c5⟩ := r3.at (i := j) (by omega)
              obtain ⟨bB, pB, rfl, c6⟩ := r4.at (i := j) (by omega)
              have hbs := back_step fX (i := a) (k := q) (j := j) hag (by omega) hjn
              obtain ⟨x1, hx1⟩ : ∃ x, x = ((rowZ X a)[q]?.getD [])[j]?.getD false := ⟨_, rfl⟩
              obtain ⟨x2, hx2⟩ : ∃ x, x = ((rowZ X a)[q + 1]?.getD [])[j]?.getD false := ⟨_, rfl⟩
              obtain ⟨gn, hgn⟩ : ∃ x, x = mkF C a q j true := ⟨_, rfl⟩
              obtain ⟨kl, hkl⟩ : ∃ x, x = mkF C a q j false := ⟨_, rfl⟩
              rw [← hx1] at c5
              rw [← hx2] at c6
              have hxx : x1 = (gn || x2 && !kl) := by
                rw [hx1, hx2, hgn, hkl]
                exact hbs
              have hbwp : Below w.heap.size w wp := by
                have hb := HX.out.2.2.2.2
                exact hb.trans (hsq.2.mono hb.size)
              have HM := Lib.hid (HMK.out wp a q hbwp)
              rw [← hgn, ← hkl] at HM
              have d3 := below_cell hsq.2 c3
              have d4 := below_cell hsq.2 c4
              have d5 := below_cell hsq.2 c5
              have d6 := below_cell hsq.2 c6
              have HQ := Lib.hid (And.intro hsq hxx)
              clear c1 r1 hcnt hm hag hst fX c3 r3 c4 r4 hl3 hl4 c5 c6 hbs hx1 hx2 hgn hkl hxx hbwp hsq
              go_upto_region 21 with (go_at_call 24; refine HM.out.1.mono ?_; rintro e w' ⟨rfl, rfl⟩)
              go_upto_region 22 with (go_at_call 24; refine HM.out.2.mono ?_; rintro e w' ⟨rfl, rfl⟩)
              obtain ⟨wp, rfl⟩ : ∃ wp : World, wp = w' := ⟨_, rfl⟩
              have hSS := And.intro d1 (And.intro d3 (And.intro d4 (And.intro d5 d6)))
              have hxx := HQ.out.2
              cases gn with
              | true => as_aux_lemma =>
                obtain rfl : x1 = true := by simpa using hxx
                clear hxx
                refine wp_region_held_drew (S := (fun w' => w'.cell? ⟨bX, pX + a, none⟩ = some (.slice (some ⟨bU, pU, none⟩) (m + 2) cu) ∧ w'.cell? ⟨bU, pU + q, none⟩ = some (.slice (some ⟨bA, pA, none⟩) n cx) ∧ w'.cell? ⟨bU, pU + (q + 1), none⟩ = some (.slice (some ⟨bB, pB, none⟩) n cy) ∧ w'.cell? ⟨bA, pA + j, none⟩ = some (.bool true) ∧ w'.cell? ⟨bB, pB + j, none⟩ = some (.bool x2))) (by kernel_rfl) ?_ (fun hHeld => ?_)
                · exact hSS
                refine wpAnyH_take (i := 0) (oi := { dst := some 127, op := Op.move (Operand.tmp 13), type := 31, pos := "law.go:233", after := #[], guard := none }) (v := ?vq0_21) rfl (by kernel_rfl) (by kernel_rfl) (by kernel_rfl) (fun _ _ _ h => h) (Or.inl ⟨by rfl, ?hq0_21⟩) (by assumption) ?_
                case hq0_21 => intro w hSw; (try dsimp only at hSw); go_simp; try (with_reducible rfl)
                (try simp only [Act.put, List.setIfInBounds_toArray, List.set_cons_zero, List.set_cons_succ])
                refine wpAnyH_take (i := 1) (oi := { dst := some 128, op := Op.move (Operand.tmp 14), type := 3, pos := "law.go:233", after := #[], guard := none }) (v := ?vq1_22) rfl (by kernel_rfl) (by kernel_rfl) (by kernel_rfl) (fun _ _ _ h => h) (Or.inl ⟨by rfl, ?hq1_22⟩) (by assumption) ?_
                case hq1_22 => intro w hSw; (try dsimp only at hSw); go_simp; try (with_reducible rfl)
                (try simp only [Act.put, List.setIfInBounds_toArray, List.set_cons_zero, List.set_cons_succ])
                refine wpAnyH_take (i := 2) (oi := { dst := some 129, op := Op.indexAddr 31 (Operand.tmp 127) (Operand.tmp 128), type := 0, pos := "law.go:233", after := #[{ on := 0, ground := Ground.data }, { on := 1, ground := Ground.data }], guard := none }) (v := ?vq2_23) rfl (by kernel_rfl) (by kernel_rfl) (by kernel_rfl) (fun _ _ _ h => h) (Or.inl ⟨by rfl, ?hq2_23⟩) (by assumption) ?_
                case hq2_23 => intro w hSw; (try dsimp only at hSw); go_simp; try (with_reducible rfl)
                (try simp only [Act.put, List.setIfInBounds_toArray, List.set_cons_zero, List.set_cons_succ])
                refine wpAnyH_take (i := 3) (oi := { dst := some 130, op := Op.load 44 (Operand.tmp 129), type := 44, pos := "law.go:233", after := #[{ on := 2, ground := Ground.data }], guard := none }) (v := ?vq3_24) rfl (by kernel_rfl) (by kernel_rfl) (by kernel_rfl) (fun _ _ _ h => h) (Or.inl ⟨by rfl, ?hq3_24⟩) (by assumption) ?_
                case hq3_24 => intro w hSw; (try dsimp only at hSw); go_simp; try (with_reducible rfl)
                (try simp only [Act.put, List.setIfInBounds_toArray, List.set_cons_zero, List.set_cons_succ])
                refine wpAnyH_take (i := 4) (oi := { dst := some 131, op := Op.move (Operand.tmp 17), type := 3, pos := "law.go:233", after := #[], guard := none }) (v := ?vq4_25) rfl (by kernel_rfl) (by kernel_rfl) (by kernel_rfl) (fun _ _ _ h => h) (Or.inl ⟨by rfl, ?hq4_25⟩) (by assumption) ?_
                case hq4_25 => intro w hSw; (try dsimp only at hSw); go_simp; try (with_reducible rfl)
                (try simp only [Act.put, List.setIfInBounds_toArray, List.set_cons_zero, List.set_cons_succ])
                refine wpAnyH_take (i := 5) (oi := { dst := some 132, op := Op.indexAddr 44 (Operand.tmp 130) (Operand.tmp 131), type := 0, pos := "law.go:233", after := #[{ on := 3, ground := Ground.data }, { on := 4, ground := Ground.data }], guard := none }) (v := .pointer (some ⟨bU, pU + q, none⟩)) rfl (by kernel_rfl) (by kernel_rfl) (by kernel_rfl) (fun _ _ _ h => h) (Or.inl ⟨by rfl, ?hq5_26⟩) (by assumption) ?_
                case hq5_26 => intro w hSw; (try dsimp only at hSw); go_simp; try (intro h; exfalso; omega)
                (try simp only [Act.put, List.setIfInBounds_toArray, List.set_cons_zero, List.set_cons_succ])
                refine wpAnyH_take (i := 6) (oi := { dst := some 133, op := Op.load 26 (Operand.tmp 132), type := 26, pos := "law.go:233", after := #[{ on := 5, ground := Ground.data }], guard := none }) (v := ?vq6_27) rfl (by kernel_rfl) (by kernel_rfl) (by kernel_rfl) (fun _ _ _ h => h) (Or.inl ⟨by rfl, ?hq6_27⟩) (by assumption) ?_
                case hq6_27 => intro w hSw; (try dsimp only at hSw); go_simp; try (with_reducible rfl)
                (try simp only [Act.put, List.setIfInBounds_toArray, List.set_cons_zero, List.set_cons_succ])
                refine wpAnyH_take (i := 7) (oi := { dst := some 134, op := Op.move (Operand.tmp 4), type := 3, pos := "law.go:233", after := #[], guard := none }) (v := ?vq7_28) rfl (by kernel_rfl) (by kernel_rfl) (by kernel_rfl) (fun _ _ _ h => h) (Or.inl ⟨by rfl, ?hq7_28⟩) (by assumption) ?_
                case hq7_28 => intro w hSw; (try dsimp only at hSw); go_simp; try (with_reducible rfl)
                (try simp only [Act.put, List.setIfInBounds_toArray, List.set_cons_zero, List.set_cons_succ])
                refine wpAnyH_take (i := 8) (oi := { dst := some 135, op := Op.indexAddr 26 (Operand.tmp 133) (Operand.tmp 134), type := 0, pos := "law.go:233", after := #[{ on := 6, ground := Ground.data }, { on := 7, ground := Ground.data }], guard := none }) (v := ?vq8_29) rfl (by kernel_rfl) (by kernel_rfl) (by kernel_rfl) (fun _ _ _ h => h) (Or.inl ⟨by rfl, ?hq8_29⟩) (by assumption) ?_
                case hq8_29 => intro w hSw; (try dsimp only at hSw); go_simp; try (with_reducible rfl)
                (try simp only [Act.put, List.setIfInBounds_toArray, List.set_cons_zero, List.set_cons_succ])
                refine wpAnyH_take (i := 9) (oi := { dst := some 136, op := Op.load 4 (Operand.tmp 135), type := 4, pos := "law.go:233", after := #[{ on := 8, ground := Ground.data }], guard := none }) (v := ?vq9_30) rfl (by kernel_rfl) (by kernel_rfl) (by kernel_rfl) (fun _ _ _ h => h) (Or.inl ⟨by rfl, ?hq9_30⟩) (by assumption) ?_
                case hq9_30 => intro w hSw; (try dsimp only at hSw); go_simp; try (with_reducible rfl)
                (try simp only [Act.put, List.setIfInBounds_toArray, List.set_cons_zero, List.set_cons_succ])
                refine wpAnyH_take (i := 10) (oi := { dst := some 137, op := Op.move (Operand.tmp 18), type := 4, pos := "law.go:233", after := #[], guard := none }) (v := ?vq10_31) rfl (by kernel_rfl) (by kernel_rfl) (by kernel_rfl) (fun _ _ _ h => h) (Or.inl ⟨by rfl, ?hq10_31⟩) (by assumption) ?_
                case hq10_31 => intro w hSw; (try dsimp only at hSw); go_simp; try (with_reducible rfl)
                (try simp only [Act.put, List.setIfInBounds_toArray, List.set_cons_zero, List.set_cons_succ])
                refine wpAnyH_take (i := 11) (oi := { dst := some 138, op := Op.move (Operand.tmp 137), type := 4, pos := "law.go:233", after := #[{ on := 10, ground := Ground.data }], guard := none }) (v := ?vq11_32) rfl (by kernel_rfl) (by kernel_rfl) (by kernel_rfl) (fun _ _ _ h => h) (Or.inl ⟨by rfl, ?hq11_32⟩) (by assumption) ?_
                case hq11_32 => intro w hSw; (try dsimp only at hSw); go_simp; try (with_reducible rfl)
                (try simp only [Act.put, List.setIfInBounds_toArray, List.set_cons_zero, List.set_cons_succ])
                refine wpAnyH_take (i := 12) (oi := { dst := some 139, op := Op.move (Operand.tmp 13), type := 31, pos := "law.go:233", after := #[{ on := 11, ground := Ground.guard }], guard := some (11, false) }) (v := undef) rfl (by kernel_rfl) (by kernel_rfl) (by kernel_rfl) (fun _ _ _ h => h) (Or.inr ⟨by rfl, rfl⟩) (by assumption) ?_
                (try simp only [Act.put, List.setIfInBounds_toArray, List.set_cons_zero, List.set_cons_succ])
                refine wpAnyH_take (i := 13) (oi := { dst := some 140, op := Op.move (Operand.tmp 14), type := 3, pos := "law.go:233", after := #[{ on := 11, ground := Ground.guard }], guard := some (11, false) }) (v := undef) rfl (by kernel_rfl) (by kernel_rfl) (by kernel_rfl) (fun _ _ _ h => h) (Or.inr ⟨by rfl, rfl⟩) (by assumption) ?_
                (try simp only [Act.put, List.setIfInBounds_toArray, List.set_cons_zero, List.set_cons_succ])
                refine wpAnyH_take (i := 14) (oi := { dst := some 141, op := Op.indexAddr 31 (Operand.tmp 139) (Operand.tmp 140), type := 0, pos := "law.go:233", after := #[{ on := 12, ground := Ground.data }, { on := 13, ground := Ground.data }, { on := 11, ground := Ground.guard }], guard := some (11, false) }) (v := undef) rfl (by kernel_rfl) (by kernel_rfl) (by kernel_rfl) (fun _ _ _ h => h) (Or.inr ⟨by rfl, rfl⟩) (by assumption) ?_
                (try simp only [Act.put, List.setIfInBounds_toArray, List.set_cons_zero, List.set_cons_succ])
                refine wpAnyH_take (i := 15) (oi := { dst := some 142, op := Op.load 44 (Operand.tmp 141), type := 44, pos := "law.go:233", after := #[{ on := 14, ground := Ground.data }, { on := 11, ground := Ground.guard }], guard := some (11, false) }) (v := undef) rfl (by kernel_rfl) (by kernel_rfl) (by kernel_rfl) (fun _ _ _ h => h) (Or.inr ⟨by rfl, rfl⟩) (by assumption) ?_
                (try simp only [Act.put, List.setIfInBounds_toArray, List.set_cons_zero, List.set_cons_succ])
                refine wpAnyH_take (i := 16) (oi := { dst := some 143, op := Op.move (Operand.tmp 17), type := 3, pos := "law.go:233", after := #[{ on := 11, ground := Ground.guard }], guard := some (11, false) }) (v := undef) rfl (by kernel_rfl) (by kernel_rfl) (by kernel_rfl) (fun _ _ _ h => h) (Or.inr ⟨by rfl, rfl⟩) (by assumption) ?_
                (try simp only [Act.put, List.setIfInBounds_toArray, List.set_cons_zero, List.set_cons_succ])
                refine wpAnyH_take (i := 17) (oi := { dst := some 144, op := Op.binOp BinOp.add 3 (Operand.tmp 143) (Operand.const (Value.int IntKind.i64 1)) 3, type := 3, pos := "law.go:233", after := #[{ on := 16, ground := Ground.data }, { on := 11, ground := Ground.guard }], guard := some (11, false) }) (v := undef) rfl (by kernel_rfl) (by kernel_rfl) (by kernel_rfl) (fun _ _ _ h => h) (Or.inr ⟨by rfl, rfl⟩) (by assumption) ?_
                (try simp only [Act.put, List.setIfInBounds_toArray, List.set_cons_zero, List.set_cons_succ])
                refine wpAnyH_take (i := 18) (oi := { dst := some 145, op := Op.indexAddr 44 (Operand.tmp 142) (Operand.tmp 144), type := 0, pos := "law.go:233", after := #[{ on := 15, ground := Ground.data }, { on := 17, ground := Ground.data }, { on := 11, ground := Ground.guard }], guard := some (11, false) }) (v := undef) rfl (by kernel_rfl) (by kernel_rfl) (by kernel_rfl) (fun _ _ _ h => h) (Or.inr ⟨by rfl, rfl⟩) (by assumption) ?_
                (try simp only [Act.put, List.setIfInBounds_toArray, List.set_cons_zero, List.set_cons_succ])
                refine wpAnyH_take (i := 19) (oi := { dst := some 146, op := Op.load 26 (Operand.tmp 145), type := 26, pos := "law.go:233", after := #[{ on := 18, ground := Ground.data }, { on := 11, ground := Ground.guard }], guard := some (11, false) }) (v := undef) rfl (by kernel_rfl) (by kernel_rfl) (by kernel_rfl) (fun _ _ _ h => h) (Or.inr ⟨by rfl, rfl⟩) (by assumption) ?_
                (try simp only [Act.put, List.setIfInBounds_toArray, List.set_cons_zero, List.set_cons_succ])
                refine wpAnyH_take (i := 20) (oi := { dst := some 147, op := Op.move (Operand.tmp 4), type := 3, pos := "law.go:233", after := #[{ on := 11, ground := Ground.guard }], guard := some (11, false) }) (v := undef) rfl (by kernel_rfl) (by kernel_rfl) (by kernel_rfl) (fun _ _ _ h => h) (Or.inr ⟨by rfl, rfl⟩) (by assumption) ?_
                (try simp only [Act.put, List.setIfInBounds_toArray, List.set_cons_zero, List.set_cons_succ])
                refine wpAnyH_take (i := 21) (oi := { dst := some 148, op := Op.indexAddr 26 (Operand.tmp 146) (Operand.tmp 147), type := 0, pos := "law.go:233", after := #[{ on := 19, ground := Ground.data }, { on := 20, ground := Ground.data }, { on := 11, ground := Ground.guard }], guard := some (11, false) }) (v := undef) rfl (by kernel_rfl) (by kernel_rfl) (by kernel_rfl) (fun _ _ _ h => h) (Or.inr ⟨by rfl, rfl⟩) (by assumption) ?_
                (try simp only [Act.put, List.setIfInBounds_toArray, List.set_cons_zero, List.set_cons_succ])
                refine wpAnyH_take (i := 22) (oi := { dst := some 149, op := Op.load 4 (Operand.tmp 148), type := 4, pos := "law.go:233", after := #[{ on := 21, ground := Ground.data }, { on := 11, ground := Ground.guard }], guard := some (11, false) }) (v := undef) rfl (by kernel_rfl) (by kernel_rfl) (by kernel_rfl) (fun _ _ _ h => h) (Or.inr ⟨by rfl, rfl⟩) (by assumption) ?_
                (try simp only [Act.put, List.setIfInBounds_toArray, List.set_cons_zero, List.set_cons_succ])
                refine wpAnyH_take (i := 23) (oi := { dst := some 150, op := Op.move (Operand.tmp 149), type := 4, pos := "law.go:233", after := #[{ on := 22, ground := Ground.data }, { on := 11, ground := Ground.chain }, { on := 11, ground := Ground.guard }], guard := some (11, false) }) (v := undef) rfl (by kernel_rfl) (by kernel_rfl) (by kernel_rfl) (fun _ _ _ h => h) (Or.inr ⟨by rfl, rfl⟩) (by assumption) ?_
                (try simp only [Act.put, List.setIfInBounds_toArray, List.set_cons_zero, List.set_cons_succ])
                refine wpAnyH_take (i := 24) (oi := { dst := some 151, op := Op.move (Operand.tmp 19), type := 4, pos := "law.go:233", after := #[{ on := 23, ground := Ground.guard }], guard := some (23, true) }) (v := undef) rfl (by kernel_rfl) (by kernel_rfl) (by kernel_rfl) (fun _ _ _ h => h) (Or.inr ⟨by rfl, rfl⟩) (by assumption) ?_
                (try simp only [Act.put, List.setIfInBounds_toArray, List.set_cons_zero, List.set_cons_succ])
                refine wpAnyH_take (i := 25) (oi := { dst := some 152, op := Op.unOp UnOp.not 4 (Operand.tmp 151), type := 4, pos := "law.go:233", after := #[{ on := 24, ground := Ground.data }, { on := 23, ground := Ground.guard }], guard := some (23, true) }) (v := undef) rfl (by kernel_rfl) (by kernel_rfl) (by kernel_rfl) (fun _ _ _ h => h) (Or.inr ⟨by rfl, rfl⟩) (by assumption) ?_
                (try simp only [Act.put, List.setIfInBounds_toArray, List.set_cons_zero, List.set_cons_succ])
                refine wpAnyH_take (i := 26) (oi := { dst := some 153, op := Op.pick (Operand.tmp 150) (Operand.tmp 152) (Operand.const (Value.bool false)), type := 4, pos := "law.go:233", after := #[{ on := 23, ground := Ground.data }, { on := 25, ground := Ground.data }, { on := 11, ground := Ground.guard }], guard := some (11, false) }) (v := undef) rfl (by kernel_rfl) (by kernel_rfl) (by kernel_rfl) (fun _ _ _ h => h) (Or.inr ⟨by rfl, rfl⟩) (by assumption) ?_
                (try simp only [Act.put, List.setIfInBounds_toArray, List.set_cons_zero, List.set_cons_succ])
                refine wpAnyH_take (i := 27) (oi := { dst := some 154, op := Op.pick (Operand.tmp 138) (Operand.const (Value.bool true)) (Operand.tmp 153), type := 4, pos := "law.go:233", after := #[{ on := 11, ground := Ground.data }, { on := 26, ground := Ground.data }], guard := none }) (v := ?vq27_33) rfl (by kernel_rfl) (by kernel_rfl) (by kernel_rfl) (fun _ _ _ h => h) (Or.inl ⟨by rfl, ?hq27_33⟩) (by assumption) ?_
                case hq27_33 => intro w hSw; (try dsimp only at hSw); go_simp; try (with_reducible rfl)
                (try simp only [Act.put, List.setIfInBounds_toArray, List.set_cons_zero, List.set_cons_succ])
                refine wpAnyH_take (i := 28) (oi := { dst := some 155, op := Op.binOp BinOp.neq 4 (Operand.tmp 136) (Operand.tmp 154) 4, type := 4, pos := "law.go:233", after := #[{ on := 9, ground := Ground.data }, { on := 27, ground := Ground.data }], guard := none }) (v := ?vq28_34) rfl (by kernel_rfl) (by kernel_rfl) (by kernel_rfl) (fun _ _ _ h => h) (Or.inl ⟨by rfl, ?hq28_34⟩) (by assumption) ?_
                case hq28_34 => intro w hSw; (try dsimp only at hSw); go_simp; try (with_reducible rfl)
                (try simp only [Act.put, List.setIfInBounds_toArray, List.set_cons_zero, List.set_cons_succ])
                refine wpAnyH_done (by kernel_rfl) ?_ _
                have HB2 := Lib.hid (show BwS w3 nb u15 k wp.drew from HQ.out.1.drew)
                clear d1 d3 d4 d5 d6 hSS
                go_wp2
                go_roundw
                case rel => exact ⟨q + 1, hlq, nxt _, HB2.out⟩
                case measure => exact meas hlq
              | false => as_aux_lemma =>
                cases x2 with
                | false => as_aux_lemma =>
                  obtain rfl : x1 = false := by simpa using hxx
                  clear hxx
                  refine wp_region_held_drew (S := (fun w' => w'.cell? ⟨bX, pX + a, none⟩ = some (.slice (some ⟨bU, pU, none⟩) (m + 2) cu) ∧ w'.cell? ⟨bU, pU + q, none⟩ = some (.slice (some ⟨bA, pA, none⟩) n cx) ∧ w'.cell? ⟨bU, pU + (q + 1), none⟩ = some (.slice (some ⟨bB, pB, none⟩) n cy) ∧ w'.cell? ⟨bA, pA + j, none⟩ = some (.bool false) ∧ w'.cell? ⟨bB, pB + j, none⟩ = some (.bool false))) (by kernel_rfl) ?_ (fun hHeld => ?_)
                  · exact hSS
                  refine wpAnyH_take (i := 0) (oi := { dst := some 127, op := Op.move (Operand.tmp 13), type := 31, pos := "law.go:233", after := #[], guard := none }) (v := ?vq0_35) rfl (by kernel_rfl) (by kernel_rfl) (by kernel_rfl) (fun _ _ _ h => h) (Or.inl ⟨by rfl, ?hq0_35⟩) (by assumption) ?_
                  case hq0_35 => intro w hSw; (try dsimp only at hSw); go_simp; try (with_reducible rfl)
                  (try simp only [Act.put, List.setIfInBounds_toArray, List.set_cons_zero, List.set_cons_succ])
                  refine wpAnyH_take (i := 1) (oi := { dst := some 128, op := Op.move (Operand.tmp 14), type := 3, pos := "law.go:233", after := #[], guard := none }) (v := ?vq1_36) rfl (by kernel_rfl) (by kernel_rfl) (by kernel_rfl) (fun _ _ _ h => h) (Or.inl ⟨by rfl, ?hq1_36⟩) (by assumption) ?_
                  case hq1_36 => intro w hSw; (try dsimp only at hSw); go_simp; try (with_reducible rfl)
                  (try simp only [Act.put, List.setIfInBounds_toArray, List.set_cons_zero, List.set_cons_succ])
                  refine wpAnyH_take (i := 2) (oi := { dst := some 129, op := Op.indexAddr 31 (Operand.tmp 127) (Operand.tmp 128), type := 0, pos := "law.go:233", after := #[{ on := 0, ground := Ground.data }, { on := 1, ground := Ground.data }], guard := none }) (v := ?vq2_37) rfl (by kernel_rfl) (by kernel_rfl) (by kernel_rfl) (fun _ _ _ h => h) (Or.inl ⟨by rfl, ?hq2_37⟩) (by assumption) ?_
                  case hq2_37 => intro w hSw; (try dsimp only at hSw); go_simp; try (with_reducible rfl)
                  (try simp only [Act.put, List.setIfInBounds_toArray, List.set_cons_zero, List.set_cons_succ])
                  refine wpAnyH_take (i := 3) (oi := { dst := some 130, op := Op.load 44 (Operand.tmp 129), type := 44, pos := "law.go:233", after := #[{ on := 2, ground := Ground.data }], guard := none }) (v := ?vq3_38) rfl (by kernel_rfl) (by kernel_rfl) (by kernel_rfl) (fun _ _ _ h => h) (Or.inl ⟨by rfl, ?hq3_38⟩) (by assumption) ?_
                  case hq3_38 => intro w hSw; (try dsimp only at hSw); go_simp; try (with_reducible rfl)
                  (try simp only [Act.put, List.setIfInBounds_toArray, List.set_cons_zero, List.set_cons_succ])
                  refine wpAnyH_take (i := 4) (oi := { dst := some 131, op := Op.move (Operand.tmp 17), type := 3, pos := "law.go:233", after := #[], guard := none }) (v := ?vq4_39) rfl (by kernel_rfl) (by kernel_rfl) (by kernel_rfl) (fun _ _ _ h => h) (Or.inl ⟨by rfl, ?hq4_39⟩) (by assumption) ?_
                  case hq4_39 => intro w hSw; (try dsimp only at hSw); go_simp; try (with_reducible rfl)
                  (try simp only [Act.put, List.setIfInBounds_toArray, List.set_cons_zero, List.set_cons_succ])
                  refine wpAnyH_take (i := 5) (oi := { dst := some 132, op := Op.indexAddr 44 (Operand.tmp 130) (Operand.tmp 131), type := 0, pos := "law.go:233", after := #[{ on := 3, ground := Ground.data }, { on := 4, ground := Ground.data }], guard := none }) (v := .pointer (some ⟨bU, pU + q, none⟩)) rfl (by kernel_rfl) (by kernel_rfl) (by kernel_rfl) (fun _ _ _ h => h) (Or.inl ⟨by rfl, ?hq5_40⟩) (by assumption) ?_
                  case hq5_40 => intro w hSw; (try dsimp only at hSw); go_simp; try (intro h; exfalso; omega)
                  (try simp only [Act.put, List.setIfInBounds_toArray, List.set_cons_zero, List.set_cons_succ])
                  refine wpAnyH_take (i := 6) (oi := { dst := some 133, op := Op.load 26 (Operand.tmp 132), type := 26, pos := "law.go:233", after := #[{ on := 5, ground := Ground.data }], guard := none }) (v := ?vq6_41) rfl (by kernel_rfl) (by kernel_rfl) (by kernel_rfl) (fun _ _ _ h => h) (Or.inl ⟨by rfl, ?hq6_41⟩) (by assumption) ?_
                  case hq6_41 => intro w hSw; (try dsimp only at hSw); go_simp; try (with_reducible rfl)
                  (try simp only [Act.put, List.setIfInBounds_toArray, List.set_cons_zero, List.set_cons_succ])
                  refine wpAnyH_take (i := 7) (oi := { dst := some 134, op := Op.move (Operand.tmp 4), type := 3, pos := "law.go:233", after := #[], guard := none }) (v := ?vq7_42) rfl (by kernel_rfl) (by kernel_rfl) (by kernel_rfl) (fun _ _ _ h => h) (Or.inl ⟨by rfl, ?hq7_42⟩) (by assumption) ?_
                  case hq7_42 => intro w hSw; (try dsimp only at hSw); go_simp; try (with_reducible rfl)
                  (try simp only [Act.put, List.setIfInBounds_toArray, List.set_cons_zero, List.set_cons_succ])
                  refine wpAnyH_take (i := 8) (oi := { dst := some 135, op := Op.indexAddr 26 (Operand.tmp 133) (Operand.tmp 134), type := 0, pos := "law.go:233", after := #[{ on := 6, ground := Ground.data }, { on := 7, ground := Ground.data }], guard := none }) (v := ?vq8_43) rfl (by kernel_rfl) (by kernel_rfl) (by kernel_rfl) (fun _ _ _ h => h) (Or.inl ⟨by rfl, ?hq8_43⟩) (by assumption) ?_
                  case hq8_43 => intro w hSw; (try dsimp only at hSw); go_simp; try (with_reducible rfl)
                  (try simp only [Act.put, List.setIfInBounds_toArray, List.set_cons_zero, List.set_cons_succ])
                  refine wpAnyH_take (i := 9) (oi := { dst := some 136, op := Op.load 4 (Operand.tmp 135), type := 4, pos := "law.go:233", after := #[{ on := 8, ground := Ground.data }], guard := none }) (v := ?vq9_44) rfl (by kernel_rfl) (by kernel_rfl) (by kernel_rfl) (fun _ _ _ h => h) (Or.inl ⟨by rfl, ?hq9_44⟩) (by assumption) ?_
                  case hq9_44 => intro w hSw; (try dsimp only at hSw); go_simp; try (with_reducible rfl)
                  (try simp only [Act.put, List.setIfInBounds_toArray, List.set_cons_zero, List.set_cons_succ])
                  refine wpAnyH_take (i := 10) (oi := { dst := some 137, op := Op.move (Operand.tmp 18), type := 4, pos := "law.go:233", after := #[], guard := none }) (v := ?vq10_45) rfl (by kernel_rfl) (by kernel_rfl) (by kernel_rfl) (fun _ _ _ h => h) (Or.inl ⟨by rfl, ?hq10_45⟩) (by assumption) ?_
                  case hq10_45 => intro w hSw; (try dsimp only at hSw); go_simp; try (with_reducible rfl)
                  (try simp only [Act.put, List.setIfInBounds_toArray, List.set_cons_zero, List.set_cons_succ])
                  refine wpAnyH_take (i := 11) (oi := { dst := some 138, op := Op.move (Operand.tmp 137), type := 4, pos := "law.go:233", after := #[{ on := 10, ground := Ground.data }], guard := none }) (v := ?vq11_46) rfl (by kernel_rfl) (by kernel_rfl) (by kernel_rfl) (fun _ _ _ h => h) (Or.inl ⟨by rfl, ?hq11_46⟩) (by assumption) ?_
                  case hq11_46 => intro w hSw; (try dsimp only at hSw); go_simp; try (with_reducible rfl)
                  (try simp only [Act.put, List.setIfInBounds_toArray, List.set_cons_zero, List.set_cons_succ])
                  refine wpAnyH_take (i := 12) (oi := { dst := some 139, op := Op.move (Operand.tmp 13), type := 31, pos := "law.go:233", after := #[{ on := 11, ground := Ground.guard }], guard := some (11, false) }) (v := ?vq12_47) rfl (by kernel_rfl) (by kernel_rfl) (by kernel_rfl) (fun _ _ _ h => h) (Or.inl ⟨by rfl, ?hq12_47⟩) (by assumption) ?_
                  case hq12_47 => intro w hSw; (try dsimp only at hSw); go_simp; try (with_reducible rfl)
                  (try simp only [Act.put, List.setIfInBounds_toArray, List.set_cons_zero, List.set_cons_succ])
                  refine wpAnyH_take (i := 13) (oi := { dst := some 140, op := Op.move (Operand.tmp 14), type := 3, pos := "law.go:233", after := #[{ on := 11, ground := Ground.guard }], guard := some (11, false) }) (v := ?vq13_48) rfl (by kernel_rfl) (by kernel_rfl) (by kernel_rfl) (fun _ _ _ h => h) (Or.inl ⟨by rfl, ?hq13_48⟩) (by assumption) ?_
                  case hq13_48 => intro w hSw; (try dsimp only at hSw); go_simp; try (with_reducible rfl)
                  (try simp only [Act.put, List.setIfInBounds_toArray, List.set_cons_zero, List.set_cons_succ])
                  refine wpAnyH_take (i := 14) (oi := { dst := some 141, op := Op.indexAddr 31 (Operand.tmp 139) (Operand.tmp 140), type := 0, pos := "law.go:233", after := #[{ on := 12, ground := Ground.data }, { on := 13, ground := Ground.data }, { on := 11, ground := Ground.guard }], guard := some (11, false) }) (v := ?vq14_49) rfl (by kernel_rfl) (by kernel_rfl) (by kernel_rfl) (fun _ _ _ h => h) (Or.inl ⟨by rfl, ?hq14_49⟩) (by assumption) ?_
                  case hq14_49 => intro w hSw; (try dsimp only at hSw); go_simp; try (with_reducible rfl)
                  (try simp only [Act.put, List.setIfInBounds_toArray, List.set_cons_zero, List.set_cons_succ])
                  refine wpAnyH_take (i := 15) (oi := { dst := some 142, op := Op.load 44 (Operand.tmp 141), type := 44, pos := "law.go:233", after := #[{ on := 14, ground := Ground.data }, { on := 11, ground := Ground.guard }], guard := some (11, false) }) (v := ?vq15_50) rfl (by kernel_rfl) (by kernel_rfl) (by kernel_rfl) (fun _ _ _ h => h) (Or.inl ⟨by rfl, ?hq15_50⟩) (by assumption) ?_
                  case hq15_50 => intro w hSw; (try dsimp only at hSw); go_simp; try (with_reducible rfl)
                  (try simp only [Act.put, List.setIfInBounds_toArray, List.set_cons_zero, List.set_cons_succ])
                  refine wpAnyH_take (i := 16) (oi := { dst := some 143, op := Op.move (Operand.tmp 17), type := 3, pos := "law.go:233", after := #[{ on := 11, ground := Ground.guard }], guard := some (11, false) }) (v := ?vq16_51) rfl (by kernel_rfl) (by kernel_rfl) (by kernel_rfl) (fun _ _ _ h => h) (Or.inl ⟨by rfl, ?hq16_51⟩) (by assumption) ?_
                  case hq16_51 => intro w hSw; (try dsimp only at hSw); go_simp; try (with_reducible rfl)
                  (try simp only [Act.put, List.setIfInBounds_toArray, List.set_cons_zero, List.set_cons_succ])
                  refine wpAnyH_take (i := 17) (oi := { dst := some 144, op := Op.binOp BinOp.add 3 (Operand.tmp 143) (Operand.const (Value.int IntKind.i64 1)) 3, type := 3, pos := "law.go:233", after := #[{ on := 16, ground := Ground.data }, { on := 11, ground := Ground.guard }], guard := some (11, false) }) (v := .int .i64 ((q : Int) + 1)) rfl (by kernel_rfl) (by kernel_rfl) (by kernel_rfl) (fun _ _ _ h => h) (Or.inl ⟨by rfl, ?hq17_52⟩) (by assumption) ?_
                  case hq17_52 => intro w hSw; (try dsimp only at hSw); go_simp; try rw [wrapP1 q (by omega)]
                  (try simp only [Act.put, List.setIfInBounds_toArray, List.set_cons_zero, List.set_cons_succ])
                  refine wpAnyH_take (i := 18) (oi := { dst := some 145, op := Op.indexAddr 44 (Operand.tmp 142) (Operand.tmp 144), type := 0, pos := "law.go:233", after := #[{ on := 15, ground := Ground.data }, { on := 17, ground := Ground.data }, { on := 11, ground := Ground.guard }], guard := some (11, false) }) (v := .pointer (some ⟨bU, pU + (q + 1), none⟩)) rfl (by kernel_rfl) (by kernel_rfl) (by kernel_rfl) (fun _ _ _ h => h) (Or.inl ⟨by rfl, ?hq18_53⟩) (by assumption) ?_
                  case hq18_53 => intro w hSw; (try dsimp only at hSw); go_simp; try (intro h; exfalso; omega)
                  (try simp only [Act.put, List.setIfInBounds_toArray, List.set_cons_zero, List.set_cons_succ])
                  refine wpAnyH_take (i := 19) (oi := { dst := some 146, op := Op.load 26 (Operand.tmp 145), type := 26, pos := "law.go:233", after := #[{ on := 18, ground := Ground.data }, { on := 11, ground := Ground.guard }], guard := some (11, false) }) (v := ?vq19_54) rfl (by kernel_rfl) (by kernel_rfl) (by kernel_rfl) (fun _ _ _ h => h) (Or.inl ⟨by rfl, ?hq19_54⟩) (by assumption) ?_
                  case hq19_54 => intro w hSw; (try dsimp only at hSw); go_simp; try (with_reducible rfl)
                  (try simp only [Act.put, List.setIfInBounds_toArray, List.set_cons_zero, List.set_cons_succ])
                  refine wpAnyH_take (i := 20) (oi := { dst := some 147, op := Op.move (Operand.tmp 4), type := 3, pos := "law.go:233", after := #[{ on := 11, ground := Ground.guard }], guard := some (11, false) }) (v := ?vq20_55) rfl (by kernel_rfl) (by kernel_rfl) (by kernel_rfl) (fun _ _ _ h => h) (Or.inl ⟨by rfl, ?hq20_55⟩) (by assumption) ?_
                  case hq20_55 => intro w hSw; (try dsimp only at hSw); go_simp; try (with_reducible rfl)
                  (try simp only [Act.put, List.setIfInBounds_toArray, List.set_cons_zero, List.set_cons_succ])
                  refine wpAnyH_take (i := 21) (oi := { dst := some 148, op := Op.indexAddr 26 (Operand.tmp 146) (Operand.tmp 147), type := 0, pos := "law.go:233", after := #[{ on := 19, ground := Ground.data }, { on := 20, ground := Ground.data }, { on := 11, ground := Ground.guard }], guard := some (11, false) }) (v := ?vq21_56) rfl (by kernel_rfl) (by kernel_rfl) (by kernel_rfl) (fun _ _ _ h => h) (Or.inl ⟨by rfl, ?hq21_56⟩) (by assumption) ?_
                  case hq21_56 => intro w hSw; (try dsimp only at hSw); go_simp; try (with_reducible rfl)
                  (try simp only [Act.put, List.setIfInBounds_toArray, List.set_cons_zero, List.set_cons_succ])
                  refine wpAnyH_take (i := 22) (oi := { dst := some 149, op := Op.load 4 (Operand.tmp 148), type := 4, pos := "law.go:233", after := #[{ on := 21, ground := Ground.data }, { on := 11, ground := Ground.guard }], guard := some (11, false) }) (v := ?vq22_57) rfl (by kernel_rfl) (by kernel_rfl) (by kernel_rfl) (fun _ _ _ h => h) (Or.inl ⟨by rfl, ?hq22_57⟩) (by assumption) ?_
                  case hq22_57 => intro w hSw; (try dsimp only at hSw); go_simp; try (with_reducible rfl)
                  (try simp only [Act.put, List.setIfInBounds_toArray, List.set_cons_zero, List.set_cons_succ])
                  refine wpAnyH_take (i := 23) (oi := { dst := some 150, op := Op.move (Operand.tmp 149), type := 4, pos := "law.go:233", after := #[{ on := 22, ground := Ground.data }, { on := 11, ground := Ground.chain }, { on := 11, ground := Ground.guard }], guard := some (11, false) }) (v := ?vq23_58) rfl (by kernel_rfl) (by kernel_rfl) (by kernel_rfl) (fun _ _ _ h => h) (Or.inl ⟨by rfl, ?hq23_58⟩) (by assumption) ?_
                  case hq23_58 => intro w hSw; (try dsimp only at hSw); go_simp; try (with_reducible rfl)
                  (try simp only [Act.put, List.setIfInBounds_toArray, List.set_cons_zero, List.set_cons_succ])
                  refine wpAnyH_take (i := 24) (oi := { dst := some 151, op := Op.move (Operand.tmp 19), type := 4, pos := "law.go:233", after := #[{ on := 23, ground := Ground.guard }], guard := some (23, true) }) (v := undef) rfl (by kernel_rfl) (by kernel_rfl) (by kernel_rfl) (fun _ _ _ h => h) (Or.inr ⟨by rfl, rfl⟩) (by assumption) ?_
                  (try simp only [Act.put, List.setIfInBounds_toArray, List.set_cons_zero, List.set_cons_succ])
                  refine wpAnyH_take (i := 25) (oi := { dst := some 152, op := Op.unOp UnOp.not 4 (Operand.tmp 151), type := 4, pos := "law.go:233", after := #[{ on := 24, ground := Ground.data }, { on := 23, ground := Ground.guard }], guard := some (23, true) }) (v := undef) rfl (by kernel_rfl) (by kernel_rfl) (by kernel_rfl) (fun _ _ _ h => h) (Or.inr ⟨by rfl, rfl⟩) (by assumption) ?_
                  (try simp only [Act.put, List.setIfInBounds_toArray, List.set_cons_zero, List.set_cons_succ])
                  refine wpAnyH_take (i := 26) (oi := { dst := some 153, op := Op.pick (Operand.tmp 150) (Operand.tmp 152) (Operand.const (Value.bool false)), type := 4, pos := "law.go:233", after := #[{ on := 23, ground := Ground.data }, { on := 25, ground := Ground.data }, { on := 11, ground := Ground.guard }], guard := some (11, false) }) (v := ?vq26_59) rfl (by kernel_rfl) (by kernel_rfl) (by kernel_rfl) (fun _ _ _ h => h) (Or.inl ⟨by rfl, ?hq26_59⟩) (by assumption) ?_
                  case hq26_59 => intro w hSw; (try dsimp only at hSw); go_simp; try (with_reducible rfl)
                  (try simp only [Act.put, List.setIfInBounds_toArray, List.set_cons_zero, List.set_cons_succ])
                  refine wpAnyH_take (i := 27) (oi := { dst := some 154, op := Op.pick (Operand.tmp 138) (Operand.const (Value.bool true)) (Operand.tmp 153), type := 4, pos := "law.go:233", after := #[{ on := 11, ground := Ground.data }, { on := 26, ground := Ground.data }], guard := none }) (v := ?vq27_60) rfl (by kernel_rfl) (by kernel_rfl) (by kernel_rfl) (fun _ _ _ h => h) (Or.inl ⟨by rfl, ?hq27_60⟩) (by assumption) ?_
                  case hq27_60 => intro w hSw; (try dsimp only at hSw); go_simp; try (with_reducible rfl)
                  (try simp only [Act.put, List.setIfInBounds_toArray, List.set_cons_zero, List.set_cons_succ])
                  refine wpAnyH_take (i := 28) (oi := { dst := some 155, op := Op.binOp BinOp.neq 4 (Operand.tmp 136) (Operand.tmp 154) 4, type := 4, pos := "law.go:233", after := #[{ on := 9, ground := Ground.data }, { on := 27, ground := Ground.data }], guard := none }) (v := ?vq28_61) rfl (by kernel_rfl) (by kernel_rfl) (by kernel_rfl) (fun _ _ _ h => h) (Or.inl ⟨by rfl, ?hq28_61⟩) (by assumption) ?_
                  case hq28_61 => intro w hSw; (try dsimp only at hSw); go_simp; try (with_reducible rfl)
                  (try simp only [Act.put, List.setIfInBounds_toArray, List.set_cons_zero, List.set_cons_succ])
                  refine wpAnyH_done (by kernel_rfl) ?_ _
                  have HB2 := Lib.hid (show BwS w3 nb u15 k wp.drew from HQ.out.1.drew)
                  clear d1 d3 d4 d5 d6 hSS
                  go_wp2
                  go_roundw
                  case rel => exact ⟨q + 1, hlq, nxt _, HB2.out⟩
                  case measure => exact meas hlq
                | true => as_aux_lemma =>
                  cases kl with
                  | true => as_aux_lemma =>
                    obtain rfl : x1 = false := by simpa using hxx
                    clear hxx
                    refine wp_region_held_drew (S := (fun w' => w'.cell? ⟨bX, pX + a, none⟩ = some (.slice (some ⟨bU, pU, none⟩) (m + 2) cu) ∧ w'.cell? ⟨bU, pU + q, none⟩ = some (.slice (some ⟨bA, pA, none⟩) n cx) ∧ w'.cell? ⟨bU, pU + (q + 1), none⟩ = some (.slice (some ⟨bB, pB, none⟩) n cy) ∧ w'.cell? ⟨bA, pA + j, none⟩ = some (.bool false) ∧ w'.cell? ⟨bB, pB + j, none⟩ = some (.bool true))) (by kernel_rfl) ?_ (fun hHeld => ?_)
                    · exact hSS
                    refine wpAnyH_take (i := 0) (oi := { dst := some 127, op := Op.move (Operand.tmp 13), type := 31, pos := "law.go:233", after := #[], guard := none }) (v := ?vq0_62) rfl (by kernel_rfl) (by kernel_rfl) (by kernel_rfl) (fun _ _ _ h => h) (Or.inl ⟨by rfl, ?hq0_62⟩) (by assumption) ?_
                    case hq0_62 => intro w hSw; (try dsimp only at hSw); go_simp; try (with_reducible rfl)
                    (try simp only [Act.put, List.setIfInBounds_toArray, List.set_cons_zero, List.set_cons_succ])
                    refine wpAnyH_take (i := 1) (oi := { dst := some 128, op := Op.move (Operand.tmp 14), type := 3, pos := "law.go:233", after := #[], guard := none }) (v := ?vq1_63) rfl (by kernel_rfl) (by kernel_rfl) (by kernel_rfl) (fun _ _ _ h => h) (Or.inl ⟨by rfl, ?hq1_63⟩) (by assumption) ?_
                    case hq1_63 => intro w hSw; (try dsimp only at hSw); go_simp; try (with_reducible rfl)
                    (try simp only [Act.put, List.setIfInBounds_toArray, List.set_cons_zero, List.set_cons_succ])
                    refine wpAnyH_take (i := 2) (oi := { dst := some 129, op := Op.indexAddr 31 (Operand.tmp 127) (Operand.tmp 128), type := 0, pos := "law.go:233", after := #[{ on := 0, ground := Ground.data }, { on := 1, ground := Ground.data }], guard := none }) (v := ?vq2_64) rfl (by kernel_rfl) (by kernel_rfl) (by kernel_rfl) (fun _ _ _ h => h) (Or.inl ⟨by rfl, ?hq2_64⟩) (by assumption) ?_
                    case hq2_64 => intro w hSw; (try dsimp only at hSw); go_simp; try (with_reducible rfl)
                    (try simp only [Act.put, List.setIfInBounds_toArray, List.set_cons_zero, List.set_cons_succ])
                    refine wpAnyH_take (i := 3) (oi := { dst := some 130, op := Op.load 44 (Operand.tmp 129), type := 44, pos := "law.go:233", after := #[{ on := 2, ground := Ground.data }], guard := none }) (v := ?vq3_65) rfl (by kernel_rfl) (by kernel_rfl) (by kernel_rfl) (fun _ _ _ h => h) (Or.inl ⟨by rfl, ?hq3_65⟩) (by assumption) ?_
                    case hq3_65 => intro w hSw; (try dsimp only at hSw); go_simp; try (with_reducible rfl)
                    (try simp only [Act.put, List.setIfInBounds_toArray, List.set_cons_zero, List.set_cons_succ])
                    refine wpAnyH_take (i := 4) (oi := { dst := some 131, op := Op.move (Operand.tmp 17), type := 3, pos := "law.go:233", after := #[], guard := none }) (v := ?vq4_66) rfl (by kernel_rfl) (by kernel_rfl) (by kernel_rfl) (fun _ _ _ h => h) (Or.inl ⟨by rfl, ?hq4_66⟩) (by assumption) ?_
                    case hq4_66 => intro w hSw; (try dsimp only at hSw); go_simp; try (with_reducible rfl)
                    (try simp only [Act.put, List.setIfInBounds_toArray, List.set_cons_zero, List.set_cons_succ])
                    refine wpAnyH_take (i := 5) (oi := { dst := some 132, op := Op.indexAddr 44 (Operand.tmp 130) (Operand.tmp 131), type := 0, pos := "law.go:233", after := #[{ on := 3, ground := Ground.data }, { on := 4, ground := Ground.data }], guard := none }) (v := .pointer (some ⟨bU, pU + q, none⟩)) rfl (by kernel_rfl) (by kernel_rfl) (by kernel_rfl) (fun _ _ _ h => h) (Or.inl ⟨by rfl, ?hq5_67⟩) (by assumption) ?_
                    case hq5_67 => intro w hSw; (try dsimp only at hSw); go_simp; try (intro h; exfalso; omega)
                    (try simp only [Act.put, List.setIfInBounds_toArray, List.set_cons_zero, List.set_cons_succ])
                    refine wpAnyH_take (i := 6) (oi := { dst := some 133, op := Op.load 26 (Operand.tmp 132), type := 26, pos := "law.go:233", after := #[{ on := 5, ground := Ground.data }], guard := none }) (v := ?vq6_68) rfl (by kernel_rfl) (by kernel_rfl) (by kernel_rfl) (fun _ _ _ h => h) (Or.inl ⟨by rfl, ?hq6_68⟩) (by assumption) ?_
                    case hq6_68 => intro w hSw; (try dsimp only at hSw); go_simp; try (with_reducible rfl)
                    (try simp only [Act.put, List.setIfInBounds_toArray, List.set_cons_zero, List.set_cons_succ])
                    refine wpAnyH_take (i := 7) (oi := { dst := some 134, op := Op.move (Operand.tmp 4), type := 3, pos := "law.go:233", after := #[], guard := none }) (v := ?vq7_69) rfl (by kernel_rfl) (by kernel_rfl) (by kernel_rfl) (fun _ _ _ h => h) (Or.inl ⟨by rfl, ?hq7_69⟩) (by assumption) ?_
                    case hq7_69 => intro w hSw; (try dsimp only at hSw); go_simp; try (with_reducible rfl)
                    (try simp only [Act.put, List.setIfInBounds_toArray, List.set_cons_zero, List.set_cons_succ])
                    refine wpAnyH_take (i := 8) (oi := { dst := some 135, op := Op.indexAddr 26 (Operand.tmp 133) (Operand.tmp 134), type := 0, pos := "law.go:233", after := #[{ on := 6, ground := Ground.data }, { on := 7, ground := Ground.data }], guard := none }) (v := ?vq8_70) rfl (by kernel_rfl) (by kernel_rfl) (by kernel_rfl) (fun _ _ _ h => h) (Or.inl ⟨by rfl, ?hq8_70⟩) (by assumption) ?_
                    case hq8_70 => intro w hSw; (try dsimp only at hSw); go_simp; try (with_reducible rfl)
                    (try simp only [Act.put, List.setIfInBounds_toArray, List.set_cons_zero, List.set_cons_succ])
                    refine wpAnyH_take (i := 9) (oi := { dst := some 136, op := Op.load 4 (Operand.tmp 135), type := 4, pos := "law.go:233", after := #[{ on := 8, ground := Ground.data }], guard := none }) (v := ?vq9_71) rfl (by kernel_rfl) (by kernel_rfl) (by kernel_rfl) (fun _ _ _ h => h) (Or.inl ⟨by rfl, ?hq9_71⟩) (by assumption) ?_
                    case hq9_71 => intro w hSw; (try dsimp only at hSw); go_simp; try (with_reducible rfl)
                    (try simp only [Act.put, List.setIfInBounds_toArray, List.set_cons_zero, List.set_cons_succ])
                    refine wpAnyH_take (i := 10) (oi := { dst := some 137, op := Op.move (Operand.tmp 18), type := 4, pos := "law.go:233", after := #[], guard := none }) (v := ?vq10_72) rfl (by kernel_rfl) (by kernel_rfl) (by kernel_rfl) (fun _ _ _ h => h) (Or.inl ⟨by rfl, ?hq10_72⟩) (by assumption) ?_
                    case hq10_72 => intro w hSw; (try dsimp only at hSw); go_simp; try (with_reducible rfl)
                    (try simp only [Act.put, List.setIfInBounds_toArray, List.set_cons_zero, List.set_cons_succ])
                    refine wpAnyH_take (i := 11) (oi := { dst := some 138, op := Op.move (Operand.tmp 137), type := 4, pos := "law.go:233", after := #[{ on := 10, ground := Ground.data }], guard := none }) (v := ?vq11_73) rfl (by kernel_rfl) (by kernel_rfl) (by kernel_rfl) (fun _ _ _ h => h) (Or.inl ⟨by rfl, ?hq11_73⟩) (by assumption) ?_
                    case hq11_73 => intro w hSw; (try dsimp only at hSw); go_simp; try (with_reducible rfl)
                    (try simp only [Act.put, List.setIfInBounds_toArray, List.set_cons_zero, List.set_cons_succ])
                    refine wpAnyH_take (i := 12) (oi := { dst := some 139, op := Op.move (Operand.tmp 13), type := 31, pos := "law.go:233", after := #[{ on := 11, ground := Ground.guard }], guard := some (11, false) }) (v := ?vq12_74) rfl (by kernel_rfl) (by kernel_rfl) (by kernel_rfl) (fun _ _ _ h => h) (Or.inl ⟨by rfl, ?hq12_74⟩) (by assumption) ?_
                    case hq12_74 => intro w hSw; (try dsimp only at hSw); go_simp; try (with_reducible rfl)
                    (try simp only [Act.put, List.setIfInBounds_toArray, List.set_cons_zero, List.set_cons_succ])
                    refine wpAnyH_take (i := 13) (oi := { dst := some 140, op := Op.move (Operand.tmp 14), type := 3, pos := "law.go:233", after := #[{ on := 11, ground := Ground.guard }], guard := some (11, false) }) (v := ?vq13_75) rfl (by kernel_rfl) (by kernel_rfl) (by kernel_rfl) (fun _ _ _ h => h) (Or.inl ⟨by rfl, ?hq13_75⟩) (by assumption) ?_
                    case hq13_75 => intro w hSw; (try dsimp only at hSw); go_simp; try (with_reducible rfl)
                    (try simp only [Act.put, List.setIfInBounds_toArray, List.set_cons_zero, List.set_cons_succ])
                    refine wpAnyH_take (i := 14) (oi := { dst := some 141, op := Op.indexAddr 31 (Operand.tmp 139) (Operand.tmp 140), type := 0, pos := "law.go:233", after := #[{ on := 12, ground := Ground.data }, { on := 13, ground := Ground.data }, { on := 11, ground := Ground.guard }], guard := some (11, false) }) (v := ?vq14_76) rfl (by kernel_rfl) (by kernel_rfl) (by kernel_rfl) (fun _ _ _ h => h) (Or.inl ⟨by rfl, ?hq14_76⟩) (by assumption) ?_
                    case hq14_76 => intro w hSw; (try dsimp only at hSw); go_simp; try (with_reducible rfl)
                    (try simp only [Act.put, List.setIfInBounds_toArray, List.set_cons_zero, List.set_cons_succ])
                    refine wpAnyH_take (i := 15) (oi := { dst := some 142, op := Op.load 44 (Operand.tmp 141), type := 44, pos := "law.go:233", after := #[{ on := 14, ground := Ground.data }, { on := 11, ground := Ground.guard }], guard := some (11, false) }) (v := ?vq15_77) rfl (by kernel_rfl) (by kernel_rfl) (by kernel_rfl) (fun _ _ _ h => h) (Or.inl ⟨by rfl, ?hq15_77⟩) (by assumption) ?_
                    case hq15_77 => intro w hSw; (try dsimp only at hSw); go_simp; try (with_reducible rfl)
                    (try simp only [Act.put, List.setIfInBounds_toArray, List.set_cons_zero, List.set_cons_succ])
                    refine wpAnyH_take (i := 16) (oi := { dst := some 143, op := Op.move (Operand.tmp 17), type := 3, pos := "law.go:233", after := #[{ on := 11, ground := Ground.guard }], guard := some (11, false) }) (v := ?vq16_78) rfl (by kernel_rfl) (by kernel_rfl) (by kernel_rfl) (fun _ _ _ h => h) (Or.inl ⟨by rfl, ?hq16_78⟩) (by assumption) ?_
                    case hq16_78 => intro w hSw; (try dsimp only at hSw); go_simp; try (with_reducible rfl)
                    (try simp only [Act.put, List.setIfInBounds_toArray, List.set_cons_zero, List.set_cons_succ])
                    refine wpAnyH_take (i := 17) (oi := { dst := some 144, op := Op.binOp BinOp.add 3 (Operand.tmp 143) (Operand.const (Value.int IntKind.i64 1)) 3, type := 3, pos := "law.go:233", after := #[{ on := 16, ground := Ground.data }, { on := 11, ground := Ground.guard }], guard := some (11, false) }) (v := .int .i64 ((q : Int) + 1)) rfl (by kernel_rfl) (by kernel_rfl) (by kernel_rfl) (fun _ _ _ h => h) (Or.inl ⟨by rfl, ?hq17_79⟩) (by assumption) ?_
                    case hq17_79 => intro w hSw; (try dsimp only at hSw); go_simp; try rw [wrapP1 q (by omega)]
                    (try simp only [Act.put, List.setIfInBounds_toArray, List.set_cons_zero, List.set_cons_succ])
                    refine wpAnyH_take (i := 18) (oi := { dst := some 145, op := Op.indexAddr 44 (Operand.tmp 142) (Operand.tmp 144), type := 0, pos := "law.go:233", after := #[{ on := 15, ground := Ground.data }, { on := 17, ground := Ground.data }, { on := 11, ground := Ground.guard }], guard := some (11, false) }) (v := .pointer (some ⟨bU, pU + (q + 1), none⟩)) rfl (by kernel_rfl) (by kernel_rfl) (by kernel_rfl) (fun _ _ _ h => h) (Or.inl ⟨by rfl, ?hq18_80⟩) (by assumption) ?_
                    case hq18_80 => intro w hSw; (try dsimp only at hSw); go_simp; try (intro h; exfalso; omega)
                    (try simp only [Act.put, List.setIfInBounds_toArray, List.set_cons_zero, List.set_cons_succ])
                    refine wpAnyH_take (i := 19) (oi := { dst := some 146, op := Op.load 26 (Operand.tmp 145), type := 26, pos := "law.go:233", after := #[{ on := 18, ground := Ground.data }, { on := 11, ground := Ground.guard }], guard := some (11, false) }) (v := ?vq19_81) rfl (by kernel_rfl) (by kernel_rfl) (by kernel_rfl) (fun _ _ _ h => h) (Or.inl ⟨by rfl, ?hq19_81⟩) (by assumption) ?_
                    case hq19_81 => intro w hSw; (try dsimp only at hSw); go_simp; try (with_reducible rfl)
                    (try simp only [Act.put, List.setIfInBounds_toArray, List.set_cons_zero, List.set_cons_succ])
                    refine wpAnyH_take (i := 20) (oi := { dst := some 147, op := Op.move (Operand.tmp 4), type := 3, pos := "law.go:233", after := #[{ on := 11, ground := Ground.guard }], guard := some (11, false) }) (v := ?vq20_82) rfl (by kernel_rfl) (by kernel_rfl) (by kernel_rfl) (fun _ _ _ h => h) (Or.inl ⟨by rfl, ?hq20_82⟩) (by assumption) ?_
                    case hq20_82 => intro w hSw; (try dsimp only at hSw); go_simp; try (with_reducible rfl)
                    (try simp only [Act.put, List.setIfInBounds_toArray, List.set_cons_zero, List.set_cons_succ])
                    refine wpAnyH_take (i := 21) (oi := { dst := some 148, op := Op.indexAddr 26 (Operand.tmp 146) (Operand.tmp 147), type := 0, pos := "law.go:233", after := #[{ on := 19, ground := Ground.data }, { on := 20, ground := Ground.data }, { on := 11, ground := Ground.guard }], guard := some (11, false) }) (v := ?vq21_83) rfl (by kernel_rfl) (by kernel_rfl) (by kernel_rfl) (fun _ _ _ h => h) (Or.inl ⟨by rfl, ?hq21_83⟩) (by assumption) ?_
                    case hq21_83 => intro w hSw; (try dsimp only at hSw); go_simp; try (with_reducible rfl)
                    (try simp only [Act.put, List.setIfInBounds_toArray, List.set_cons_zero, List.set_cons_succ])
                    refine wpAnyH_take (i := 22) (oi := { dst := some 149, op := Op.load 4 (Operand.tmp 148), type := 4, pos := "law.go:233", after := #[{ on := 21, ground := Ground.data }, { on := 11, ground := Ground.guard }], guard := some (11, false) }) (v := ?vq22_84) rfl (by kernel_rfl) (by kernel_rfl) (by kernel_rfl) (fun _ _ _ h => h) (Or.inl ⟨by rfl, ?hq22_84⟩) (by assumption) ?_
                    case hq22_84 => intro w hSw; (try dsimp only at hSw); go_simp; try (with_reducible rfl)
                    (try simp only [Act.put, List.setIfInBounds_toArray, List.set_cons_zero, List.set_cons_succ])
                    refine wpAnyH_take (i := 23) (oi := { dst := some 150, op := Op.move (Operand.tmp 149), type := 4, pos := "law.go:233", after := #[{ on := 22, ground := Ground.data }, { on := 11, ground := Ground.chain }, { on := 11, ground := Ground.guard }], guard := some (11, false) }) (v := ?vq23_85) rfl (by kernel_rfl) (by kernel_rfl) (by kernel_rfl) (fun _ _ _ h => h) (Or.inl ⟨by rfl, ?hq23_85⟩) (by assumption) ?_
                    case hq23_85 => intro w hSw; (try dsimp only at hSw); go_simp; try (with_reducible rfl)
                    (try simp only [Act.put, List.setIfInBounds_toArray, List.set_cons_zero, List.set_cons_succ])
                    refine wpAnyH_take (i := 24) (oi := { dst := some 151, op := Op.move (Operand.tmp 19), type := 4, pos := "law.go:233", after := #[{ on := 23, ground := Ground.guard }], guard := some (23, true) }) (v := ?vq24_86) rfl (by kernel_rfl) (by kernel_rfl) (by kernel_rfl) (fun _ _ _ h => h) (Or.inl ⟨by rfl, ?hq24_86⟩) (by assumption) ?_
                    case hq24_86 => intro w hSw; (try dsimp only at hSw); go_simp; try (with_reducible rfl)
                    (try simp only [Act.put, List.setIfInBounds_toArray, List.set_cons_zero, List.set_cons_succ])
                    refine wpAnyH_take (i := 25) (oi := { dst := some 152, op := Op.unOp UnOp.not 4 (Operand.tmp 151), type := 4, pos := "law.go:233", after := #[{ on := 24, ground := Ground.data }, { on := 23, ground := Ground.guard }], guard := some (23, true) }) (v := ?vq25_87) rfl (by kernel_rfl) (by kernel_rfl) (by kernel_rfl) (fun _ _ _ h => h) (Or.inl ⟨by rfl, ?hq25_87⟩) (by assumption) ?_
                    case hq25_87 => intro w hSw; (try dsimp only at hSw); go_simp; try (with_reducible rfl)
                    (try simp only [Act.put, List.setIfInBounds_toArray, List.set_cons_zero, List.set_cons_succ])
                    refine wpAnyH_take (i := 26) (oi := { dst := some 153, op := Op.pick (Operand.tmp 150) (Operand.tmp 152) (Operand.const (Value.bool false)), type := 4, pos := "law.go:233", after := #[{ on := 23, ground := Ground.data }, { on := 25, ground := Ground.data }, { on := 11, ground := Ground.guard }], guard := some (11, false) }) (v := ?vq26_88) rfl (by kernel_rfl) (by kernel_rfl) (by kernel_rfl) (fun _ _ _ h => h) (Or.inl ⟨by rfl, ?hq26_88⟩) (by assumption) ?_
                    case hq26_88 => intro w hSw; (try dsimp only at hSw); go_simp; try (with_reducible rfl)
                    (try simp only [Act.put, List.setIfInBounds_toArray, List.set_cons_zero, List.set_cons_succ])
                    refine wpAnyH_take (i := 27) (oi := { dst := some 154, op := Op.pick (Operand.tmp 138) (Operand.const (Value.bool true)) (Operand.tmp 153), type := 4, pos := "law.go:233", after := #[{ on := 11, ground := Ground.data }, { on := 26, ground := Ground.data }], guard := none }) (v := ?vq27_89) rfl (by kernel_rfl) (by kernel_rfl) (by kernel_rfl) (fun _ _ _ h => h) (Or.inl ⟨by rfl, ?hq27_89⟩) (by assumption) ?_
                    case hq27_89 => intro w hSw; (try dsimp only at hSw); go_simp; try (with_reducible rfl)
                    (try simp only [Act.put, List.setIfInBounds_toArray, List.set_cons_zero, List.set_cons_succ])
                    refine wpAnyH_take (i := 28) (oi := { dst := some 155, op := Op.binOp BinOp.neq 4 (Operand.tmp 136) (Operand.tmp 154) 4, type := 4, pos := "law.go:233", after := #[{ on := 9, ground := Ground.data }, { on := 27, ground := Ground.data }], guard := none }) (v := ?vq28_90) rfl (by kernel_rfl) (by kernel_rfl) (by kernel_rfl) (fun _ _ _ h => h) (Or.inl ⟨by rfl, ?hq28_90⟩) (by assumption) ?_
                    case hq28_90 => intro w hSw; (try dsimp only at hSw); go_simp; try (with_reducible rfl)
                    (try simp only [Act.put, List.setIfInBounds_toArray, List.set_cons_zero, List.set_cons_succ])
                    refine wpAnyH_done (by kernel_rfl) ?_ _
                    have HB2 := Lib.hid (show BwS w3 nb u15 k wp.drew from HQ.out.1.drew)
                    clear d1 d3 d4 d5 d6 hSS
                    go_wp2
                    go_roundw
                    case rel => exact ⟨q + 1, hlq, nxt _, HB2.out⟩
                    case measure => exact meas hlq
                  | false => as_aux_lemma =>
                    obtain rfl : x1 = true := by simpa using hxx
                    clear hxx
                    refine wp_region_held_drew (S := (fun w' => w'.cell? ⟨bX, pX + a, none⟩ = some (.slice (some ⟨bU, pU, none⟩) (m + 2) cu) ∧ w'.cell? ⟨bU, pU + q, none⟩ = some (.slice (some ⟨bA, pA, none⟩) n cx) ∧ w'.cell? ⟨bU, pU + (q + 1), none⟩ = some (.slice (some ⟨bB, pB, none⟩) n cy) ∧ w'.cell? ⟨bA, pA + j, none⟩ = some (.bool true) ∧ w'.cell? ⟨bB, pB + j, none⟩ = some (.bool true))) (by kernel_rfl) ?_ (fun hHeld => ?_)
                    · exact hSS
                    refine wpAnyH_take (i := 0) (oi := { dst := some 127, op := Op.move (Operand.tmp 13), type := 31, pos := "law.go:233", after := #[], guard := none }) (v := ?vq0_91) rfl (by kernel_rfl) (by kernel_rfl) (by kernel_rfl) (fun _ _ _ h => h) (Or.inl ⟨by rfl, ?hq0_91⟩) (by assumption) ?_
                    case hq0_91 => intro w hSw; (try dsimp only at hSw); go_simp; try (with_reducible rfl)
                    (try simp only [Act.put, List.setIfInBounds_toArray, List.set_cons_zero, List.set_cons_succ])
                    refine wpAnyH_take (i := 1) (oi := { dst := some 128, op := Op.move (Operand.tmp 14), type := 3, pos := "law.go:233", after := #[], guard := none }) (v := ?vq1_92) rfl (by kernel_rfl) (by kernel_rfl) (by kernel_rfl) (fun _ _ _ h => h) (Or.inl ⟨by rfl, ?hq1_92⟩) (by assumption) ?_
                    case hq1_92 => intro w hSw; (try dsimp only at hSw); go_simp; try (with_reducible rfl)
                    (try simp only [Act.put, List.setIfInBounds_toArray, List.set_cons_zero, List.set_cons_succ])
                    refine wpAnyH_take (i := 2) (oi := { dst := some 129, op := Op.indexAddr 31 (Operand.tmp 127) (Operand.tmp 128), type := 0, pos := "law.go:233", after := #[{ on := 0, ground := Ground.data }, { on := 1, ground := Ground.data }], guard := none }) (v := ?vq2_93) rfl (by kernel_rfl) (by kernel_rfl) (by kernel_rfl) (fun _ _ _ h => h) (Or.inl ⟨by rfl, ?hq2_93⟩) (by assumption) ?_
                    case hq2_93 => intro w hSw; (try dsimp only at hSw); go_simp; try (with_reducible rfl)
                    (try simp only [Act.put, List.setIfInBounds_toArray, List.set_cons_zero, List.set_cons_succ])
                    refine wpAnyH_take (i := 3) (oi := { dst := some 130, op := Op.load 44 (Operand.tmp 129), type := 44, pos := "law.go:233", after := #[{ on := 2, ground := Ground.data }], guard := none }) (v := ?vq3_94) rfl (by kernel_rfl) (by kernel_rfl) (by kernel_rfl) (fun _ _ _ h => h) (Or.inl ⟨by rfl, ?hq3_94⟩) (by assumption) ?_
                    case hq3_94 => intro w hSw; (try dsimp only at hSw); go_simp; try (with_reducible rfl)
                    (try simp only [Act.put, List.setIfInBounds_toArray, List.set_cons_zero, List.set_cons_succ])
                    refine wpAnyH_take (i := 4) (oi := { dst := some 131, op := Op.move (Operand.tmp 17), type := 3, pos := "law.go:233", after := #[], guard := none }) (v := ?vq4_95) rfl (by kernel_rfl) (by kernel_rfl) (by kernel_rfl) (fun _ _ _ h => h) (Or.inl ⟨by rfl, ?hq4_95⟩) (by assumption) ?_
                    case hq4_95 => intro w hSw; (try dsimp only at hSw); go_simp; try (with_reducible rfl)
                    (try simp only [Act.put, List.setIfInBounds_toArray, List.set_cons_zero, List.set_cons_succ])
                    refine wpAnyH_take (i := 5) (oi := { dst := some 132, op := Op.indexAddr 44 (Operand.tmp 130) (Operand.tmp 131), type := 0, pos := "law.go:233", after := #[{ on := 3, ground := Ground.data }, { on := 4, ground := Ground.data }], guard := none }) (v := .pointer (some ⟨bU, pU + q, none⟩)) rfl (by kernel_rfl) (by kernel_rfl) (by kernel_rfl) (fun _ _ _ h => h) (Or.inl ⟨by rfl, ?hq5_96⟩) (by assumption) ?_
                    case hq5_96 => intro w hSw; (try dsimp only at hSw); go_simp; try (intro h; exfalso; omega)
                    (try simp only [Act.put, List.setIfInBounds_toArray, List.set_cons_zero, List.set_cons_succ])
                    refine wpAnyH_take (i := 6) (oi := { dst := some 133, op := Op.load 26 (Operand.tmp 132), type := 26, pos := "law.go:233", after := #[{ on := 5, ground := Ground.data }], guard := none }) (v := ?vq6_97) rfl (by kernel_rfl) (by kernel_rfl) (by kernel_rfl) (fun _ _ _ h => h) (Or.inl ⟨by rfl, ?hq6_97⟩) (by assumption) ?_
                    case hq6_97 => intro w hSw; (try dsimp only at hSw); go_simp; try (with_reducible rfl)
                    (try simp only [Act.put, List.setIfInBounds_toArray, List.set_cons_zero, List.set_cons_succ])
                    refine wpAnyH_take (i := 7) (oi := { dst := some 134, op := Op.move (Operand.tmp 4), type := 3, pos := "law.go:233", after := #[], guard := none }) (v := ?vq7_98) rfl (by kernel_rfl) (by kernel_rfl) (by kernel_rfl) (fun _ _ _ h => h) (Or.inl ⟨by rfl, ?hq7_98⟩) (by assumption) ?_
                    case hq7_98 => intro w hSw; (try dsimp only at hSw); go_simp; try (with_reducible rfl)
                    (try simp only [Act.put, List.setIfInBounds_toArray, List.set_cons_zero, List.set_cons_succ])
                    refine wpAnyH_take (i := 8) (oi := { dst := some 135, op := Op.indexAddr 26 (Operand.tmp 133) (Operand.tmp 134), type := 0, pos := "law.go:233", after := #[{ on := 6, ground := Ground.data }, { on := 7, ground := Ground.data }], guard := none }) (v := ?vq8_99) rfl (by kernel_rfl) (by kernel_rfl) (by kernel_rfl) (fun _ _ _ h => h) (Or.inl ⟨by rfl, ?hq8_99⟩) (by assumption) ?_
                    case hq8_99 => intro w hSw; (try dsimp only at hSw); go_simp; try (with_reducible rfl)
                    (try simp only [Act.put, List.setIfInBounds_toArray, List.set_cons_zero, List.set_cons_succ])
                    refine wpAnyH_take (i := 9) (oi := { dst := some 136, op := Op.load 4 (Operand.tmp 135), type := 4, pos := "law.go:233", after := #[{ on := 8, ground := Ground.data }], guard := none }) (v := ?vq9_100) rfl (by kernel_rfl) (by kernel_rfl) (by kernel_rfl) (fun _ _ _ h => h) (Or.inl ⟨by rfl, ?hq9_100⟩) (by assumption) ?_
                    case hq9_100 => intro w hSw; (try dsimp only at hSw); go_simp; try (with_reducible rfl)
                    (try simp only [Act.put, List.setIfInBounds_toArray, List.set_cons_zero, List.set_cons_succ])
                    refine wpAnyH_take (i := 10) (oi := { dst := some 137, op := Op.move (Operand.tmp 18), type := 4, pos := "law.go:233", after := #[], guard := none }) (v := ?vq10_101) rfl (by kernel_rfl) (by kernel_rfl) (by kernel_rfl) (fun _ _ _ h => h) (Or.inl ⟨by rfl, ?hq10_101⟩) (by assumption) ?_
                    case hq10_101 => intro w hSw; (try dsimp only at hSw); go_simp; try (with_reducible rfl)
                    (try simp only [Act.put, List.setIfInBounds_toArray, List.set_cons_zero, List.set_cons_succ])
                    refine wpAnyH_take (i := 11) (oi := { dst := some 138, op := Op.move (Operand.tmp 137), type := 4, pos := "law.go:233", after := #[{ on := 10, ground := Ground.data }], guard := none }) (v := ?vq11_102) rfl (by kernel_rfl) (by kernel_rfl) (by kernel_rfl) (fun _ _ _ h => h) (Or.inl ⟨by rfl, ?hq11_102⟩) (by assumption) ?_
                    case hq11_102 => intro w hSw; (try dsimp only at hSw); go_simp; try (with_reducible rfl)
                    (try simp only [Act.put, List.setIfInBounds_toArray, List.set_cons_zero, List.set_cons_succ])
                    refine wpAnyH_take (i := 12) (oi := { dst := some 139, op := Op.move (Operand.tmp 13), type := 31, pos := "law.go:233", after := #[{ on := 11, ground := Ground.guard }], guard := some (11, false) }) (v := ?vq12_103) rfl (by kernel_rfl) (by kernel_rfl) (by kernel_rfl) (fun _ _ _ h => h) (Or.inl ⟨by rfl, ?hq12_103⟩) (by assumption) ?_
                    case hq12_103 => intro w hSw; (try dsimp only at hSw); go_simp; try (with_reducible rfl)
                    (try simp only [Act.put, List.setIfInBounds_toArray, List.set_cons_zero, List.set_cons_succ])
                    refine wpAnyH_take (i := 13) (oi := { dst := some 140, op := Op.move (Operand.tmp 14), type := 3, pos := "law.go:233", after := #[{ on := 11, ground := Ground.guard }], guard := some (11, false) }) (v := ?vq13_104) rfl (by kernel_rfl) (by kernel_rfl) (by kernel_rfl) (fun _ _ _ h => h) (Or.inl ⟨by rfl, ?hq13_104⟩) (by assumption) ?_
                    case hq13_104 => intro w hSw; (try dsimp only at hSw); go_simp; try (with_reducible rfl)
                    (try simp only [Act.put, List.setIfInBounds_toArray, List.set_cons_zero, List.set_cons_succ])
                    refine wpAnyH_take (i := 14) (oi := { dst := some 141, op := Op.indexAddr 31 (Operand.tmp 139) (Operand.tmp 140), type := 0, pos := "law.go:233", after := #[{ on := 12, ground := Ground.data }, { on := 13, ground := Ground.data }, { on := 11, ground := Ground.guard }], guard := some (11, false) }) (v := ?vq14_105) rfl (by kernel_rfl) (by kernel_rfl) (by kernel_rfl) (fun _ _ _ h => h) (Or.inl ⟨by rfl, ?hq14_105⟩) (by assumption) ?_
                    case hq14_105 => intro w hSw; (try dsimp only at hSw); go_simp; try (with_reducible rfl)
                    (try simp only [Act.put, List.setIfInBounds_toArray, List.set_cons_zero, List.set_cons_succ])
                    refine wpAnyH_take (i := 15) (oi := { dst := some 142, op := Op.load 44 (Operand.tmp 141), type := 44, pos := "law.go:233", after := #[{ on := 14, ground := Ground.data }, { on := 11, ground := Ground.guard }], guard := some (11, false) }) (v := ?vq15_106) rfl (by kernel_rfl) (by kernel_rfl) (by kernel_rfl) (fun _ _ _ h => h) (Or.inl ⟨by rfl, ?hq15_106⟩) (by assumption) ?_
                    case hq15_106 => intro w hSw; (try dsimp only at hSw); go_simp; try (with_reducible rfl)
                    (try simp only [Act.put, List.setIfInBounds_toArray, List.set_cons_zero, List.set_cons_succ])
                    refine wpAnyH_take (i := 16) (oi := { dst := some 143, op := Op.move (Operand.tmp 17), type := 3, pos := "law.go:233", after := #[{ on := 11, ground := Ground.guard }], guard := some (11, false) }) (v := ?vq16_107) rfl (by kernel_rfl) (by kernel_rfl) (by kernel_rfl) (fun _ _ _ h => h) (Or.inl ⟨by rfl, ?hq16_107⟩) (by assumption) ?_
                    case hq16_107 => intro w hSw; (try dsimp only at hSw); go_simp; try (with_reducible rfl)
                    (try simp only [Act.put, List.setIfInBounds_toArray, List.set_cons_zero, List.set_cons_succ])
                    refine wpAnyH_take (i := 17) (oi := { dst := some 144, op := Op.binOp BinOp.add 3 (Operand.tmp 143) (Operand.const (Value.int IntKind.i64 1)) 3, type := 3, pos := "law.go:233", after := #[{ on := 16, ground := Ground.data }, { on := 11, ground := Ground.guard }], guard := some (11, false) }) (v := .int .i64 ((q : Int) + 1)) rfl (by kernel_rfl) (by kernel_rfl) (by kernel_rfl) (fun _ _ _ h => h) (Or.inl ⟨by rfl, ?hq17_108⟩) (by assumption) ?_
                    case hq17_108 => intro w hSw; (try dsimp only at hSw); go_simp; try rw [wrapP1 q (by omega)]
                    (try simp only [Act.put, List.setIfInBounds_toArray, List.set_cons_zero, List.set_cons_succ])
                    refine wpAnyH_take (i := 18) (oi := { dst := some 145, op := Op.indexAddr 44 (Operand.tmp 142) (Operand.tmp 144), type := 0, pos := "law.go:233", after := #[{ on := 15, ground := Ground.data }, { on := 17, ground := Ground.data }, { on := 11, ground := Ground.guard }], guard := some (11, false) }) (v := .pointer (some ⟨bU, pU + (q + 1), none⟩)) rfl (by kernel_rfl) (by kernel_rfl) (by kernel_rfl) (fun _ _ _ h => h) (Or.inl ⟨by rfl, ?hq18_109⟩) (by assumption) ?_
                    case hq18_109 => intro w hSw; (try dsimp only at hSw); go_simp; try (intro h; exfalso; omega)
                    (try simp only [Act.put, List.setIfInBounds_toArray, List.set_cons_zero, List.set_cons_succ])
                    refine wpAnyH_take (i := 19) (oi := { dst := some 146, op := Op.load 26 (Operand.tmp 145), type := 26, pos := "law.go:233", after := #[{ on := 18, ground := Ground.data }, { on := 11, ground := Ground.guard }], guard := some (11, false) }) (v := ?vq19_110) rfl (by kernel_rfl) (by kernel_rfl) (by kernel_rfl) (fun _ _ _ h => h) (Or.inl ⟨by rfl, ?hq19_110⟩) (by assumption) ?_
                    case hq19_110 => intro w hSw; (try dsimp only at hSw); go_simp; try (with_reducible rfl)
                    (try simp only [Act.put, List.setIfInBounds_toArray, List.set_cons_zero, List.set_cons_succ])
                    refine wpAnyH_take (i := 20) (oi := { dst := some 147, op := Op.move (Operand.tmp 4), type := 3, pos := "law.go:233", after := #[{ on := 11, ground := Ground.guard }], guard := some (11, false) }) (v := ?vq20_111) rfl (by kernel_rfl) (by kernel_rfl) (by kernel_rfl) (fun _ _ _ h => h) (Or.inl ⟨by rfl, ?hq20_111⟩) (by assumption) ?_
                    case hq20_111 => intro w hSw; (try dsimp only at hSw); go_simp; try (with_reducible rfl)
                    (try simp only [Act.put, List.setIfInBounds_toArray, List.set_cons_zero, List.set_cons_succ])
                    refine wpAnyH_take (i := 21) (oi := { dst := some 148, op := Op.indexAddr 26 (Operand.tmp 146) (Operand.tmp 147), type := 0, pos := "law.go:233", after := #[{ on := 19, ground := Ground.data }, { on := 20, ground := Ground.data }, { on := 11, ground := Ground.guard }], guard := some (11, false) }) (v := ?vq21_112) rfl (by kernel_rfl) (by kernel_rfl) (by kernel_rfl) (fun _ _ _ h => h) (Or.inl ⟨by rfl, ?hq21_112⟩) (by assumption) ?_
                    case hq21_112 => intro w hSw; (try dsimp only at hSw); go_simp; try (with_reducible rfl)
                    (try simp only [Act.put, List.setIfInBounds_toArray, List.set_cons_zero, List.set_cons_succ])
                    refine wpAnyH_take (i := 22) (oi := { dst := some 149, op := Op.load 4 (Operand.tmp 148), type := 4, pos := "law.go:233", after := #[{ on := 21, ground := Ground.data }, { on := 11, ground := Ground.guard }], guard := some (11, false) }) (v := ?vq22_113) rfl (by kernel_rfl) (by kernel_rfl) (by kernel_rfl) (fun _ _ _ h => h) (Or.inl ⟨by rfl, ?hq22_113⟩) (by assumption) ?_
                    case hq22_113 => intro w hSw; (try dsimp only at hSw); go_simp; try (with_reducible rfl)
                    (try simp only [Act.put, List.setIfInBounds_toArray, List.set_cons_zero, List.set_cons_succ])
                    refine wpAnyH_take (i := 23) (oi := { dst := some 150, op := Op.move (Operand.tmp 149), type := 4, pos := "law.go:233", after := #[{ on := 22, ground := Ground.data }, { on := 11, ground := Ground.chain }, { on := 11, ground := Ground.guard }], guard := some (11, false) }) (v := ?vq23_114) rfl (by kernel_rfl) (by kernel_rfl) (by kernel_rfl) (fun _ _ _ h => h) (Or.inl ⟨by rfl, ?hq23_114⟩) (by assumption) ?_
                    case hq23_114 => intro w hSw; (try dsimp only at hSw); go_simp; try (with_reducible rfl)
                    (try simp only [Act.put, List.setIfInBounds_toArray, List.set_cons_zero, List.set_cons_succ])
                    refine wpAnyH_take (i := 24) (oi := { dst := some 151, op := Op.move (Operand.tmp 19), type := 4, pos := "law.go:233", after := #[{ on := 23, ground := Ground.guard }], guard := some (23, true) }) (v := ?vq24_115) rfl (by kernel_rfl) (by kernel_rfl) (by kernel_rfl) (fun _ _ _ h => h) (Or.inl ⟨by rfl, ?hq24_115⟩) (by assumption) ?_
                    case hq24_115 => intro w hSw; (try dsimp only at hSw); go_simp; try (with_reducible rfl)
                    (try simp only [Act.put, List.setIfInBounds_toArray, List.set_cons_zero, List.set_cons_succ])
                    refine wpAnyH_take (i := 25) (oi := { dst := some 152, op := Op.unOp UnOp.not 4 (Operand.tmp 151), type := 4, pos := "law.go:233", after := #[{ on := 24, ground := Ground.data }, { on := 23, ground := Ground.guard }], guard := some (23, true) }) (v := ?vq25_116) rfl (by kernel_rfl) (by kernel_rfl) (by kernel_rfl) (fun _ _ _ h => h) (Or.inl ⟨by rfl, ?hq25_116⟩) (by assumption) ?_
                    case hq25_116 => intro w hSw; (try dsimp only at hSw); go_simp; try (with_reducible rfl)
                    (try simp only [Act.put, List.setIfInBounds_toArray, List.set_cons_zero, List.set_cons_succ])
                    refine wpAnyH_take (i := 26) (oi := { dst := some 153, op := Op.pick (Operand.tmp 150) (Operand.tmp 152) (Operand.const (Value.bool false)), type := 4, pos := "law.go:233", after := #[{ on := 23, ground := Ground.data }, { on := 25, ground := Ground.data }, { on := 11, ground := Ground.guard }], guard := some (11, false) }) (v := ?vq26_117) rfl (by kernel_rfl) (by kernel_rfl) (by kernel_rfl) (fun _ _ _ h => h) (Or.inl ⟨by rfl, ?hq26_117⟩) (by assumption) ?_
                    case hq26_117 => intro w hSw; (try dsimp only at hSw); go_simp; try (with_reducible rfl)
                    (try simp only [Act.put, List.setIfInBounds_toArray, List.set_cons_zero, List.set_cons_succ])
                    refine wpAnyH_take (i := 27) (oi := { dst := some 154, op := Op.pick (Operand.tmp 138) (Operand.const (Value.bool true)) (Operand.tmp 153), type := 4, pos := "law.go:233", after := #[{ on := 11, ground := Ground.data }, { on := 26, ground := Ground.data }], guard := none }) (v := ?vq27_118) rfl (by kernel_rfl) (by kernel_rfl) (by kernel_rfl) (fun _ _ _ h => h) (Or.inl ⟨by rfl, ?hq27_118⟩) (by assumption) ?_
                    case hq27_118 => intro w hSw; (try dsimp only at hSw); go_simp; try (with_reducible rfl)
                    (try simp only [Act.put, List.setIfInBounds_toArray, List.set_cons_zero, List.set_cons_succ])
                    refine wpAnyH_take (i := 28) (oi := { dst := some 155, op := Op.binOp BinOp.neq 4 (Operand.tmp 136) (Operand.tmp 154) 4, type := 4, pos := "law.go:233", after := #[{ on := 9, ground := Ground.data }, { on := 27, ground := Ground.data }], guard := none }) (v := ?vq28_119) rfl (by kernel_rfl) (by kernel_rfl) (by kernel_rfl) (fun _ _ _ h => h) (Or.inl ⟨by rfl, ?hq28_119⟩) (by assumption) ?_
                    case hq28_119 => intro w hSw; (try dsimp only at hSw); go_simp; try (with_reducible rfl)
                    (try simp only [Act.put, List.setIfInBounds_toArray, List.set_cons_zero, List.set_cons_succ])
                    refine wpAnyH_done (by kernel_rfl) ?_ _
                    have HB2 := Lib.hid (show BwS w3 nb u15 k wp.drew from HQ.out.1.drew)
                    clear d1 d3 d4 d5 d6 hSS
                    go_wp2
                    go_roundw
                    case rel => exact ⟨q + 1, hlq, nxt _, HB2.out⟩
                    case measure => exact meas hlq
          · as_aux_lemma =>
              obtain rfl : q = m + 1 := last hq hlq
              have fX := HX.out.2.1
              obtain ⟨⟨xs, hxl, hown⟩, hbe⟩ := hsq
              obtain ⟨bU, pU, ox, cx, rfl, c3, r3⟩ := r1.row (i := 0) (by omega)
              have hl3 : ((rowZ X a)[0]?.getD []).length = n := fX.row a 0 hag (by omega)
              rw [hl3] at c3 r3
              obtain ⟨bA, pA, rfl, c5⟩ := r3.at (i := j) (by omega)
              obtain ⟨x0, hx0⟩ : ∃ x, x = ((rowZ X a)[0]?.getD [])[j]?.getD false := ⟨_, rfl⟩
              rw [← hx0] at c5
              simp only [Nat.add_zero] at c3
              have d3 := below_cell hbe c3
              have d5 := below_cell hbe c5
              have hxs := HX.out.2.2.2.1.below hbe HX.out.2.2.2.1.lt
              have hps := hbe.size
              have HE := Lib.hid (And.intro hxl (And.intro hown hbe))
              clear c1 r1 hcnt hm hag hst fX hxl hown hbe c3 r3 hl3 c5 hx0 hxs hps
              go_wp2_with (at_builtin; refine wpList_append_own_at _ rfl (.tmp 156) (.tmp 166) 26 rfl nb 4 i3 _ 1 1 Try.underlying26 HI3.out.1 HI3.out.2.1 HI3.out.2.2.1 HI3.out.2.2.2 rfl (by decide) _ _ _ rfl (HE.out.2.1.alloc _) ⟨_, 0, none⟩ 1 1 [.bool x0] rfl rfl ?c1 ?c2 ?c3 ?c4 ?c5 ?_)
              case c1 => exact new_cells _ [.bool x0] _
              case c2 => intro u hu; simp at hu; subst hu; rfl
              case c3 => unfold maxLen; omega
              case c4 => omega
              case c5 => have h1 := HZ0.out; have h2 := HE.out.2.2.size; simp; omega
              intro v' w5 hown hg _ _
              have hb5 : BwS w3 nb v' (k + 1) w5 := by
                obtain ⟨hxl, ho, hbe⟩ := HE.out
                refine ⟨⟨xs ++ [x0], by simp [hxl], ?_⟩, (hbe.alloc hbe.size _).grown hg (by have := hbe.size; simp; omega) (fun q hq => Nat.le_trans HNB.out (own_lt ho hq).2)⟩
                rw [bC, List.map_append]
                exact hown
              obtain ⟨ob, cb, hv', -⟩ := own_parts hown
              subst hv'
              clear hown hg d1 d3 d5
              have hx5 := HX.out.2.2.2.1.below hb5.2 HX.out.2.2.2.1.lt
              have e0 := hx5.cell 0
              have e1 := hx5.cell 1
              have e2 := hx5.cell 2
              have e3 := hx5.cell 3
              simp at e0 e1 e2 e3
              have hbw5 : Below w.heap.size w w5 := HX.out.2.2.2.2.trans (hb5.2.mono HX.out.2.2.2.2.size)
              have HTO : Go.RowKit.Hid (Calls Try.prog 23 #[.agg #[nm, pa, lo, .slice (some ⟨bl, fl, none⟩) L cap], .int .i64 (a : Int)] w5 fun e w' => ∃ v base, e = .returned v ∧ Below w5.heap.size w5 w' ∧ w5.heap.size ≤ base ∧ w'.ownsRow base 3 1 v (tos g a).length (nC (tos g a))) := Lib.hid (by
                obtain ⟨hB, hC, hL, -⟩ := HA.out
                have h := to_any w.heap.size ⟨nm, pa, lo, some ⟨bl, fl, none⟩, cap, g⟩ a HO.out.2.2.2.2.1 HS.out.1.1 w5 (hB.below hbw5 (Nat.le_refl _)) hbw5.size
                unfold Bv.v Bv.cs at h
                simp only [← hL] at h
                exact h)
              have H5 := Lib.hid (And.intro hb5 hx5)
              clear hb5 hx5 hbw5
              go_upto_region 26 with (go_at_call 23; refine HTO.out.mono ?_; clear HTO e0 e1 e2 e3; rintro e w6 ⟨v, base, rfl, ht1, ht2, ht3⟩)
              obtain ⟨ot, ct, rfl, hints⟩ := own_parts ht3
              obtain ⟨nT, hnT⟩ : ∃ n, n = (tos g a).length := ⟨_, rfl⟩
              rw [← hnT] at hints ⊢
              have hnT1 : nT ≤ 30 := by
                have h1 := List.length_filterMap_le (fun t => if isPl t g.length then some t.toNat else none) (toR g a)
                have h2 := (HS.out.2.2.2.2.1 a HO.out.2.2.2.2.1).2
                rw [hnT, tos, tv]
                omega
              have hb6 := H5.out.1.below ht1
              obtain ⟨c1, r1, hcnt, hm, hag, hst⟩ := HO.out
              have fX := HX.out.2.1
              obtain ⟨bV, pV, oy, cy, he, c4, r4⟩ := r1.row (i := m + 1) (by omega)
              cases he
              have hl4 : ((rowZ X a)[m + 1]?.getD []).length = n := fX.row a (m + 1) hag (by omega)
              rw [hl4] at c4 r4
              obtain ⟨bB, pB, rfl, c6⟩ := r4.at (i := j) (by omega)
              have hend := fX.end_ (i := a) hag hjn
              rw [← hm] at hend
              obtain ⟨x1, hx1⟩ : ∃ x, x = ((rowZ X a)[m + 1]?.getD [])[j]?.getD false := ⟨_, rfl⟩
              rw [← hx1] at c6
              have hx1e : x1 = (tos g a).any (fun t => valZ X t 0 j) := by rw [hx1]; exact hend
              have d1 := below_cell hb6.2 c1
              have d4 := below_cell hb6.2 c4
              have d6 := below_cell hb6.2 c6
              have H6 := Lib.hid (And.intro hb6 (And.intro hints (And.intro hnT (And.intro hx1e hag))))
              have hSS := And.intro d1 (And.intro d4 d6)
              clear ht1 ht2 ht3 hints hnT hb6 c1 r1 hcnt hm hag hst fX c4 r4 hl4 c6 hend hx1 hx1e
              refine wp_region_held_drew (S := (fun w' => w'.cell? ⟨bX, pX + a, none⟩ = some (.slice (some ⟨bU, pU, none⟩) (m + 2) cu) ∧ w'.cell? ⟨bU, pU + (m + 1), none⟩ = some (.slice (some ⟨bB, pB, none⟩) n cy) ∧ w'.cell? ⟨bB, pB + j, none⟩ = some (.bool x1))) (by kernel_rfl) ?_ (fun hHeld => ?_)
              · exact hSS
              refine wpAnyH_take (i := 0) (oi := { dst := some 171, op := Op.move (Operand.tmp 13), type := 31, pos := "law.go:239", after := #[], guard := none }) (v := ?vq0_1001) rfl (by kernel_rfl) (by kernel_rfl) (by kernel_rfl) (fun _ _ _ h => h) (Or.inl ⟨by rfl, ?hq0_1001⟩) (by assumption) ?_
              case hq0_1001 => intro w hSw; (try dsimp only at hSw); go_simp; try (with_reducible rfl)
              (try simp only [Act.put, List.setIfInBounds_toArray, List.set_cons_zero, List.set_cons_succ])
              refine wpAnyH_take (i := 1) (oi := { dst := some 172, op := Op.move (Operand.tmp 14), type := 3, pos := "law.go:239", after := #[], guard := none }) (v := ?vq1_1002) rfl (by kernel_rfl) (by kernel_rfl) (by kernel_rfl) (fun _ _ _ h => h) (Or.inl ⟨by rfl, ?hq1_1002⟩) (by assumption) ?_
              case hq1_1002 => intro w hSw; (try dsimp only at hSw); go_simp; try (with_reducible rfl)
              (try simp only [Act.put, List.setIfInBounds_toArray, List.set_cons_zero, List.set_cons_succ])
              refine wpAnyH_take (i := 2) (oi := { dst := some 173, op := Op.indexAddr 31 (Operand.tmp 171) (Operand.tmp 172), type := 0, pos := "law.go:239", after := #[{ on := 0, ground := Ground.data }, { on := 1, ground := Ground.data }], guard := none }) (v := ?vq2_1003) rfl (by kernel_rfl) (by kernel_rfl) (by kernel_rfl) (fun _ _ _ h => h) (Or.inl ⟨by rfl, ?hq2_1003⟩) (by assumption) ?_
              case hq2_1003 => intro w hSw; (try dsimp only at hSw); go_simp; try (with_reducible rfl)
              (try simp only [Act.put, List.setIfInBounds_toArray, List.set_cons_zero, List.set_cons_succ])
              refine wpAnyH_take (i := 3) (oi := { dst := some 174, op := Op.load 44 (Operand.tmp 173), type := 44, pos := "law.go:239", after := #[{ on := 2, ground := Ground.data }], guard := none }) (v := ?vq3_1004) rfl (by kernel_rfl) (by kernel_rfl) (by kernel_rfl) (fun _ _ _ h => h) (Or.inl ⟨by rfl, ?hq3_1004⟩) (by assumption) ?_
              case hq3_1004 => intro w hSw; (try dsimp only at hSw); go_simp; try (with_reducible rfl)
              (try simp only [Act.put, List.setIfInBounds_toArray, List.set_cons_zero, List.set_cons_succ])
              refine wpAnyH_take (i := 4) (oi := { dst := some 175, op := Op.move (Operand.tmp 13), type := 31, pos := "law.go:239", after := #[], guard := none }) (v := ?vq4_1005) rfl (by kernel_rfl) (by kernel_rfl) (by kernel_rfl) (fun _ _ _ h => h) (Or.inl ⟨by rfl, ?hq4_1005⟩) (by assumption) ?_
              case hq4_1005 => intro w hSw; (try dsimp only at hSw); go_simp; try (with_reducible rfl)
              (try simp only [Act.put, List.setIfInBounds_toArray, List.set_cons_zero, List.set_cons_succ])
              refine wpAnyH_take (i := 5) (oi := { dst := some 176, op := Op.move (Operand.tmp 14), type := 3, pos := "law.go:239", after := #[], guard := none }) (v := ?vq5_1006) rfl (by kernel_rfl) (by kernel_rfl) (by kernel_rfl) (fun _ _ _ h => h) (Or.inl ⟨by rfl, ?hq5_1006⟩) (by assumption) ?_
              case hq5_1006 => intro w hSw; (try dsimp only at hSw); go_simp; try (with_reducible rfl)
              (try simp only [Act.put, List.setIfInBounds_toArray, List.set_cons_zero, List.set_cons_succ])
              refine wpAnyH_take (i := 6) (oi := { dst := some 177, op := Op.indexAddr 31 (Operand.tmp 175) (Operand.tmp 176), type := 0, pos := "law.go:239", after := #[{ on := 4, ground := Ground.data }, { on := 5, ground := Ground.data }], guard := none }) (v := ?vq6_1007) rfl (by kernel_rfl) (by kernel_rfl) (by kernel_rfl) (fun _ _ _ h => h) (Or.inl ⟨by rfl, ?hq6_1007⟩) (by assumption) ?_
              case hq6_1007 => intro w hSw; (try dsimp only at hSw); go_simp; try (with_reducible rfl)
              (try simp only [Act.put, List.setIfInBounds_toArray, List.set_cons_zero, List.set_cons_succ])
              refine wpAnyH_take (i := 7) (oi := { dst := some 178, op := Op.load 44 (Operand.tmp 177), type := 44, pos := "law.go:239", after := #[{ on := 6, ground := Ground.data }], guard := none }) (v := ?vq7_1008) rfl (by kernel_rfl) (by kernel_rfl) (by kernel_rfl) (fun _ _ _ h => h) (Or.inl ⟨by rfl, ?hq7_1008⟩) (by assumption) ?_
              case hq7_1008 => intro w hSw; (try dsimp only at hSw); go_simp; try (with_reducible rfl)
              (try simp only [Act.put, List.setIfInBounds_toArray, List.set_cons_zero, List.set_cons_succ])
              refine wpAnyH_take (i := 8) (oi := { dst := some 179, op := Op.call { callee := Callee.builtin Builtin.len, args := #[Operand.tmp 178], argTypes := #[44] }, type := 3, pos := "law.go:239", after := #[{ on := 7, ground := Ground.data }], guard := none }) (v := ?vq8_1009) rfl (by kernel_rfl) (by kernel_rfl) (by kernel_rfl) (fun _ _ _ h => h) (Or.inl ⟨by rfl, ?hq8_1009⟩) (by assumption) ?_
              case hq8_1009 => intro w hSw; (try dsimp only at hSw); go_simp; try (with_reducible rfl)
              (try simp only [Act.put, List.setIfInBounds_toArray, List.set_cons_zero, List.set_cons_succ])
              refine wpAnyH_take (i := 9) (oi := { dst := some 180, op := Op.binOp BinOp.sub 3 (Operand.tmp 179) (Operand.const (Value.int IntKind.i64 1)) 3, type := 3, pos := "law.go:239", after := #[{ on := 8, ground := Ground.data }], guard := none }) (v := .int .i64 ((m : Int) + 1)) rfl (by kernel_rfl) (by kernel_rfl) (by kernel_rfl) (fun _ _ _ h => h) (Or.inl ⟨by rfl, ?hq9_1010⟩) (by assumption) ?_
              case hq9_1010 => intro w hSw; (try dsimp only at hSw); go_simp; try (rw [wrapS m (by omega)])
              (try simp only [Act.put, List.setIfInBounds_toArray, List.set_cons_zero, List.set_cons_succ])
              refine wpAnyH_take (i := 10) (oi := { dst := some 181, op := Op.indexAddr 44 (Operand.tmp 174) (Operand.tmp 180), type := 0, pos := "law.go:239", after := #[{ on := 3, ground := Ground.data }, { on := 9, ground := Ground.data }], guard := none }) (v := .pointer (some ⟨bU, pU + (m + 1), none⟩)) rfl (by kernel_rfl) (by kernel_rfl) (by kernel_rfl) (fun _ _ _ h => h) (Or.inl ⟨by rfl, ?hq10_1011⟩) (by assumption) ?_
              case hq10_1011 => intro w hSw; (try dsimp only at hSw); go_simp; try (intro h; exfalso; omega)
              (try simp only [Act.put, List.setIfInBounds_toArray, List.set_cons_zero, List.set_cons_succ])
              refine wpAnyH_take (i := 11) (oi := { dst := some 182, op := Op.load 26 (Operand.tmp 181), type := 26, pos := "law.go:239", after := #[{ on := 10, ground := Ground.data }], guard := none }) (v := ?vq11_1012) rfl (by kernel_rfl) (by kernel_rfl) (by kernel_rfl) (fun _ _ _ h => h) (Or.inl ⟨by rfl, ?hq11_1012⟩) (by assumption) ?_
              case hq11_1012 => intro w hSw; (try dsimp only at hSw); go_simp; try (with_reducible rfl)
              (try simp only [Act.put, List.setIfInBounds_toArray, List.set_cons_zero, List.set_cons_succ])
              refine wpAnyH_take (i := 12) (oi := { dst := some 183, op := Op.move (Operand.tmp 4), type := 3, pos := "law.go:239", after := #[], guard := none }) (v := ?vq12_1013) rfl (by kernel_rfl) (by kernel_rfl) (by kernel_rfl) (fun _ _ _ h => h) (Or.inl ⟨by rfl, ?hq12_1013⟩) (by assumption) ?_
              case hq12_1013 => intro w hSw; (try dsimp only at hSw); go_simp; try (with_reducible rfl)
              (try simp only [Act.put, List.setIfInBounds_toArray, List.set_cons_zero, List.set_cons_succ])
              refine wpAnyH_take (i := 13) (oi := { dst := some 184, op := Op.indexAddr 26 (Operand.tmp 182) (Operand.tmp 183), type := 0, pos := "law.go:239", after := #[{ on := 11, ground := Ground.data }, { on := 12, ground := Ground.data }], guard := none }) (v := ?vq13_1014) rfl (by kernel_rfl) (by kernel_rfl) (by kernel_rfl) (fun _ _ _ h => h) (Or.inl ⟨by rfl, ?hq13_1014⟩) (by assumption) ?_
              case hq13_1014 => intro w hSw; (try dsimp only at hSw); go_simp; try (with_reducible rfl)
              (try simp only [Act.put, List.setIfInBounds_toArray, List.set_cons_zero, List.set_cons_succ])
              refine wpAnyH_take (i := 14) (oi := { dst := some 185, op := Op.load 4 (Operand.tmp 184), type := 4, pos := "law.go:239", after := #[{ on := 13, ground := Ground.data }], guard := none }) (v := ?vq14_1015) rfl (by kernel_rfl) (by kernel_rfl) (by kernel_rfl) (fun _ _ _ h => h) (Or.inl ⟨by rfl, ?hq14_1015⟩) (by assumption) ?_
              case hq14_1015 => intro w hSw; (try dsimp only at hSw); go_simp; try (with_reducible rfl)
              (try simp only [Act.put, List.setIfInBounds_toArray, List.set_cons_zero, List.set_cons_succ])
              refine wpAnyH_take (i := 15) (oi := { dst := some 21, op := Op.assign (Operand.tmp 185), type := 4, pos := "law.go:239", after := #[{ on := 14, ground := Ground.data }, { on := 0, ground := Ground.phase }, { on := 1, ground := Ground.phase }, { on := 2, ground := Ground.phase }, { on := 3, ground := Ground.phase }, { on := 4, ground := Ground.phase }, { on := 5, ground := Ground.phase }, { on := 6, ground := Ground.phase }, { on := 7, ground := Ground.phase }, { on := 8, ground := Ground.phase }, { on := 9, ground := Ground.phase }, { on := 10, ground := Ground.phase }, { on := 11, ground := Ground.phase }, { on := 12, ground := Ground.phase }, { on := 13, ground := Ground.phase }, { on := 14, ground := Ground.phase }], guard := none }) (v := ?vq15_1016) rfl (by kernel_rfl) (by kernel_rfl) (by kernel_rfl) (fun _ _ _ h => h) (Or.inl ⟨by rfl, ?hq15_1016⟩) (by assumption) ?_
              case hq15_1016 => intro w hSw; (try dsimp only at hSw); go_simp; try (with_reducible rfl)
              (try simp only [Act.put, List.setIfInBounds_toArray, List.set_cons_zero, List.set_cons_succ])
              refine wpAnyH_done (by kernel_rfl) ?_ _
              obtain ⟨w7, hw7⟩ : ∃ w7, w7 = w6.drew := ⟨_, rfl⟩
              rw [← hw7]
              have H7 : Go.RowKit.Hid (BwS w3 nb (.slice ob (k + 1) cb) (k + 1) w7 ∧ (0 < nT → ∃ gu ex, ot = some ⟨gu, 0, none⟩ ∧ Bx w7 gu 3 (nC (tos g a) ++ ex)) ∧ nT = (tos g a).length ∧ x1 = (tos g a).any (fun t => valZ X t 0 j) ∧ a < g.length) := Lib.hid (by
                rw [hw7]
                obtain ⟨h1, h2, h3, h4, h5⟩ := H6.out
                exact ⟨h1.drew, h2, h3, h4, h5⟩)
              clear d1 d4 d6 hSS hw7 H6
              go_wp2
              go_loopw [22, 23] (fun us uq wr => ∃ q : Nat, q ≤ nT ∧ uq = .int .i64 q ∧ us = .bool (((tos g a).take q).any (fun t => valZ X t 0 j)) ∧ wr = w7) (fun _ uq _ => nT - (intOf uq).toNat)
              case atStart => exact ⟨0, Nat.zero_le _, rfl, by simp, rfl⟩
              case round =>
                obtain ⟨q, hq, rfl, rfl, rfl⟩ := hrel
                obtain ⟨b, hb⟩ : ∃ b, b = ((tos g a).take q).any (fun t => valZ X t 0 j) := ⟨_, rfl⟩
                rw [← hb]
                by_cases hlq : q < nT
                · obtain ⟨hb7, hints, hnT, hx1e, hag⟩ := H7.out
                  obtain ⟨gt, ext, rfl, hbt⟩ := hints (by omega)
                  have hql : q < (tos g a).length := by omega
                  have c1 := hbt.cell q
                  rw [nC_at hql] at c1
                  obtain ⟨t, ht⟩ : ∃ t, t = (tos g a)[q] := ⟨_, rfl⟩
                  rw [← ht] at c1
                  have htm : t ∈ tos g a := ht ▸ List.getElem_mem hql
                  have htl := tos_lt htm
                  have htL : t < L := by
                    have h9 := HA.out.2.2.1
                    omega
                  have hX := HX.out.1
                  have fX := HX.out.2.1
                  obtain ⟨bX', pX', ou2, cu2, he, c2, r2⟩ := hX.row (i := t) (by rw [HX.out.2.2.1]; exact htL)
                  cases he
                  obtain ⟨b2, p2, ox2, cx2, rfl, c3, r3⟩ := r2.row (i := 0) (by rw [fX.cnt t htl]; omega)
                  have hl3 : ((rowZ X t)[0]?.getD []).length = n := fX.row t 0 htl (by omega)
                  rw [hl3] at c3 r3
                  obtain ⟨b4, p4, rfl, c4⟩ := r3.at (i := j) (by omega)
                  have hcn := fX.cnt t htl
                  obtain ⟨m2, hm2⟩ : ∃ m2, m2 = (rowZ X t).length := ⟨_, rfl⟩
                  have hm2p : 0 < m2 := by omega
                  rw [← hm2] at c2
                  obtain ⟨y, hy⟩ : ∃ y, y = ((rowZ X t)[0]?.getD [])[j]?.getD false := ⟨_, rfl⟩
                  rw [← hy] at c4
                  simp only [Nat.add_zero] at c3
                  have hany : ((tos g a).take (q + 1)).any (fun t => valZ X t 0 j) = (b || y) := by
                    rw [List.take_add_one, List.getElem?_eq_getElem hql, ← ht, List.any_append, ← hb, hy]
                    simp
                  have d2 := below_cell hb7.2 c2
                  have d3 := below_cell hb7.2 c3
                  have d4 := below_cell hb7.2 c4
                  have HQ := Lib.hid hany
                  clear hb7 hints hnT hx1e hag hbt hql ht htm htl hX fX c2 r2 c3 r3 hl3 c4 hcn hm2 hy hany hb
                  cases b with
                  | true => as_aux_lemma =>
                    go_wp2
                    go_roundw
                    case rel => exact ⟨q + 1, hlq, nxt _, by rw [HQ.out]; rfl, by first | rfl | trivial⟩
                    case measure => exact meas hlq
                  | false => as_aux_lemma =>
                    go_wp2
                    go_roundw
                    case rel => exact ⟨q + 1, hlq, nxt _, by rw [HQ.out]; rfl, by first | rfl | trivial⟩
                    case measure => exact meas hlq
                · obtain rfl : q = nT := last hq hlq
                  have hbx : b = x1 := by
                    obtain ⟨hb7, hints, hnT, hx1e, hag⟩ := H7.out
                    rw [hb, hx1e, hnT, List.take_length]
                  subst hbx
                  clear hb
                  by_cases hkW : k = nW
                  · subst hkW
                    cases b with
                    | true => as_aux_lemma =>
                      go_wp2
                      go_ret
                      exact ⟨rfl, HX.out.2.2.2.2.trans (H7.out.1.2.mono HX.out.2.2.2.2.size)⟩
                    | false => as_aux_lemma =>
                      go_wp2
                      go_ret
                      exact ⟨rfl, HX.out.2.2.2.2.trans (H7.out.1.2.mono HX.out.2.2.2.2.size)⟩
                  by_cases hT0 : q = 0
                  · subst hT0
                    cases b with
                    | true => as_aux_lemma =>
                      go_wp2
                      go_ret
                      exact ⟨rfl, HX.out.2.2.2.2.trans (H7.out.1.2.mono HX.out.2.2.2.2.size)⟩
                    | false => as_aux_lemma =>
                      go_wp2
                      go_ret
                      exact ⟨rfl, HX.out.2.2.2.2.trans (H7.out.1.2.mono HX.out.2.2.2.2.size)⟩
                  obtain ⟨hb7, hints, hnT, hx1e, hag⟩ := H7.out
                  have hkl : k < nW := by omega
                  obtain ⟨-, -, hLg, -, hnW, hWc, hww⟩ := HA.out
                  obtain ⟨bW, fW, rfl, -, hwc⟩ := hWc (by omega)
                  have cW := hwc k hkl
                  have hkw : k < way.length := by omega
                  obtain ⟨x, hx⟩ : ∃ x, x = way[k]?.getD 0 := ⟨_, rfl⟩
                  rw [← hx] at cW
                  have hxw : -9223372036854775808 ≤ x ∧ x ≤ 9223372036854775807 := by
                    refine i64_bounds (hww x ?_)
                    rw [hx, List.getElem?_eq_getElem hkw]
                    exact List.getElem_mem _
                  obtain ⟨i1, i2, i5, i6⟩ := idx_of x q (by omega) hxw (by omega)
                  obtain ⟨ix, hix⟩ : ∃ ix : Nat, (ix : Int) = (x.tmod q + q).tmod q := ⟨((x.tmod q + q).tmod q).toNat, by omega⟩
                  have hixl : ix < q := by omega
                  obtain ⟨gt, ext, rfl, hbt⟩ := hints (by omega)
                  have c1 := hbt.cell ix
                  have hil : ix < (tos g a).length := by omega
                  rw [nC_at hil] at c1
                  obtain ⟨t, ht⟩ : ∃ t, t = (tos g a)[ix] := ⟨_, rfl⟩
                  rw [← ht] at c1
                  have htL : t < L := by
                    have := tos_lt (show t ∈ tos g a from ht ▸ List.getElem_mem hil)
                    omega
                  have hbW7 : Below w.heap.size w wr := HX.out.2.2.2.2.trans (hb7.2.mono HX.out.2.2.2.2.size)
                  have dW := (hbW7.cell (p := ⟨bW, fW + k, none⟩) (World.block_lt_of_cell? w _ cW)).trans cW
                  rw [show ix = ((x.tmod q + q).tmod q).toNat by omega] at c1
                  have hq0 : ¬ (q : Int) = 0 := by omega
                  have hq00 : ((q : Int) == 0) = false := by simp; omega
                  clear hb7 hints hnT hx1e hag hLg hnW hWc hww hwc cW hkw hx hxw hbt hil ht hbW7
                  cases b with
                  | true => as_aux_lemma =>
                    go_wp2
                    go_roundw
                    case rel => exact ⟨k + 1, t, hkl, nxt _, htL, rfl, H7.out.1⟩
                    case measure => exact meas (show k < nW + 1 by omega)
                  | false => as_aux_lemma =>
                    go_wp2
                    go_roundw
                    case rel => exact ⟨k + 1, t, hkl, nxt _, htL, rfl, H7.out.1⟩
                    case measure => exact meas (show k < nW + 1 by omega)
end Go.Proofs.Ythfdomgkmfcolaa
