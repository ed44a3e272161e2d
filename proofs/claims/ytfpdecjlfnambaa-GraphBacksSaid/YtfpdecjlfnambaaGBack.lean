/-
  Graph: Back. Conditions: the body and the changes lie in the heap.
-/
import Derived.Test.YtfpdecjlfnambaaGFlowQ
import Derived.Test.YtfpdecjlfnambaaGPreds
import Derived.Test.YtfpdecjlfnambaaGNextB
import Derived.Test.YtfpdecjlfnambaaGNewA
import Derived.Test.YtfpdecjlfnambaaGBegin
import Derived.Test.YtfpdecjlfnambaaGSprB
import Derived.Test.YtfpdecjlfnambaaGStates
namespace Go.Proofs.Ytfpdecjlfnambaa
open Go Go.RowKit

attribute [local go_sem] Oper.semAt_some

/-- Behind Back's first calls. -/
def BackR (w1 : World) (nm pa lo : Value) (oa : Option Addr) (cap : Nat) (g : Gb) (L n nC s fb pr : Nat) (oc : Option Addr) (capC : Nat) (ni : Int) (C : List Chg) : Exit → Act → World → Prop
  | .normal, a', w' => ∃ (rb f ua : Nat) (X1 : World), a' = { tmps := #[.agg #[nm, pa, lo, .slice oa L cap], .int .i64 ni, .slice oc nC capC, .pointer (some ⟨s, 0, none⟩), undef, undef, .slice none 0 0, .pointer (some ⟨fb, 0, none⟩), .pointer (some ⟨f, 0, none⟩), .pointer (some ⟨s, 3, none⟩), .slice oa L cap, .int .i64 (L : Int), .bool false, .agg #[nm, pa, lo, .slice oa L cap], .slice (some ⟨pr, 0, none⟩) L L, .agg #[nm, pa, lo, .slice oa L cap], .int .i64 ni, .slice oc nC capC, .slice (some ⟨ua, 0, none⟩) 1 1, .pointer (some ⟨s, 3, none⟩), .slice oa L cap, .int .i64 (L : Int), .slice (some ⟨rb, 0, none⟩) L L, .pointer (some ⟨f, 0, none⟩), undef, undef, undef, undef, undef, undef, undef], defers := [] } ∧ w1.heap.size ≤ rb ∧ Below w1.heap.size w1 X1 ∧ Bx X1 rb 4 (bC (List.replicate L true)) ∧ NewF X1 w' f (⟨nm, pa, lo, oa, cap, g⟩ : Bv) n C rb (List.replicate L true).length (List.replicate L true) true (.slice none 0 0)
  | _, _, _ => False
/-- What Back tells of the first states: those behind the blocks' ends. -/
def BackF (g : Gb) (n : Nat) (C : List Chg) (V : List Bool) (F : Nat → List Bool) : Prop :=
  ∃ E : SE, E.c = V ∧ E.n = n ∧ E.so = true ∧ E.N = allF g n C true false ∧ E.A = allF g n C true true ∧ E.next = prdK g g.length ∧ Spr E (fun _ => List.replicate n false) n F
/-- What Back comes to. -/
def BackT (B : Bv) (n : Nat) (C : List Chg) (w : World) (e : Ending) (w' : World) : Prop :=
  ∃ bl F, e = .returned (.slice (some ⟨bl, 0, none⟩) B.g.length B.g.length) ∧ Below w.heap.size w w' ∧
      (∀ i ∈ ones (List.replicate B.g.length true), (F i).length = n) ∧ BackF B.g n C (List.replicate B.g.length true) F ∧ StK w' bl (List.replicate B.g.length true) (ones (List.replicate B.g.length true)).length (fun i => stO B.g n C true i (F i))
theorem own_nrow {w : World} {base : Nat} {v : Value} {l : List Nat} (h : w.ownsRow base 3 1 v l.length (nC l)) : NRow w v l := by
  by_cases hv : v = .slice none 0 0
  · refine .inl ⟨hv, ?_⟩
    rcases h.2 with ⟨-, h1⟩ | ⟨g, cap, cur, h1, -⟩
    · exact List.eq_nil_of_length_eq_zero h1
    · rw [hv] at h1
      cases h1
  · obtain ⟨g, cap, ex, h1, -, h3, -⟩ := own_bx h hv
    exact .inr ⟨g, cap, ex, h1, h3⟩
theorem ones_all {L i : Nat} : i ∈ ones (List.replicate L true) ↔ i < L := by
  rw [ones_iff, List.length_replicate]
  refine ⟨fun h => h.1, fun h => ⟨h, ?_⟩⟩
  simp [bitF, List.getElem?_replicate, h]

set_option maxRecDepth 100000 in
set_option maxHeartbeats 8000000 in
theorem back_any (n0 : Nat) (B : Bv) (ni : Int) (n : Nat) (oc : Option Addr) (capC : Nat) (C : List Chg) (w : World) (hni : n = ni.toNat) (hB : B.At n0 w) (hs : B.Small) (hC : CRow n0 w oc C) (hcs : CSmall C) (hn : n ≤ 1000) (hn0 : n0 ≤ w.heap.size) (hL0 : 0 < B.g.length) :
    Calls Try.prog 16 #[B.v, .int .i64 ni, .slice oc C.length capC] w fun e w' => BackT B n C w e w' := by
  obtain ⟨nm, pa, lo, oa, cap, g⟩ := B
  simp only at hs hL0 ⊢
  obtain ⟨L, hL⟩ : ∃ L, L = g.length := ⟨_, rfl⟩
  obtain ⟨nC, hnC⟩ : ∃ k, k = C.length := ⟨_, rfl⟩
  have hL1 : L ≤ 1000 := by rw [hL]; exact hs.1
  have hL0' : 0 < L := by rw [hL]; exact hL0
  have HA := Lib.hid (And.intro hB (And.intro hs (And.intro hC (And.intro hcs (And.intro hn0 (And.intro hL (And.intro hnC hni)))))))
  rw [← hnC]
  unfold Bv.v Bv.cs
  simp only [← hL]
  clear hB hs hC hcs hn0 hL hnC hni hL0
  refine calls_of_wp_marks Try.func16 rfl ?_
  simp only [Try.ntmps16, List.size_toArray, List.length_cons, List.length_nil, Nat.reduceAdd, Nat.reduceSub, Array.replicate_succ, Array.replicate_zero, List.push_toArray, List.append_toArray, List.nil_append, List.cons_append]
  go_upto_region 3 with fail
  obtain ⟨s, hs'⟩ : ∃ s, s = w.heap.size := ⟨_, rfl⟩
  rw [← hs']
  obtain ⟨wa, hwa⟩ : ∃ wa, wa = w.alloc (.cells #[nm, pa, lo, .slice oa L cap] 25) := ⟨_, rfl⟩
  rw [← hwa]
  have hba : Below w.heap.size w wa := by
    rw [hwa]
    exact (Below.refl _ _).alloc (Nat.le_refl _) _
  have hxa : Bx wa s 25 [nm, pa, lo, .slice oa L cap] := by
    rw [hwa, hs']
    exact Bx.new w _ [nm, pa, lo, .slice oa L cap]
  have HP : Go.RowKit.Hid (Calls Try.prog 18 #[.agg #[nm, pa, lo, .slice oa L cap]] wa fun e w' =>
      ∃ pr vs base, e = .returned (.slice (some ⟨pr, 0, none⟩) L L) ∧ wa.heap.size ≤ pr ∧ wa.heap.size ≤ base ∧ Below wa.heap.size wa w' ∧ vs.length = L ∧ PdAt w' base pr vs (prdK g g.length)) := Lib.hid (by
    obtain ⟨hB, hs, hC, hcs, hn0, hL, hnC, hni⟩ := HA.out
    have h := preds_any n0 (⟨nm, pa, lo, oa, cap, g⟩ : Bv) wa (hB.below hba hn0) hs (Nat.le_trans hn0 hba.size)
    unfold PredsT Bv.v Bv.cs at h
    simp only [← hL] at h
    rw [← hL]
    exact h)
  have e0 := hxa.cell 0
  have e1 := hxa.cell 1
  have e2 := hxa.cell 2
  have e3 := hxa.cell 3
  have HW0 := Lib.hid (And.intro hba (And.intro hxa (And.intro hs' hwa)))
  clear hba hxa hs' hwa
  go_wp2_with (go_at_call 18; refine HP.out.mono ?_; clear HP e0 e1 e2 e3; rintro e w0 ⟨pr, vs, base, rfl, hp1, hp2, hp3, hp4, hp5⟩; have HP0 := Lib.hid (And.intro hp1 (And.intro hp2 (And.intro hp3 (And.intro hp4 hp5)))); clear hp1 hp2 hp3 hp4 hp5)
  obtain ⟨w1, hw1⟩ : ∃ w1, w1 = w0.alloc (.cells #[.slice (some ⟨pr, 0, none⟩) L L] 39) := ⟨_, rfl⟩
  obtain ⟨fb, hfb'⟩ : ∃ fb, fb = w0.heap.size := ⟨_, rfl⟩
  rw [← hw1, ← hfb']
  obtain ⟨hba, hxa, hs', hwa⟩ := HW0.out
  obtain ⟨hp1, hp2, hp3, hp4, hp5⟩ := HP0.out
  have h01 : Below w0.heap.size w0 w1 := by
    rw [hw1]
    exact (Below.refl _ _).alloc (Nat.le_refl _) _
  have hxs : Bx w1 s 25 [nm, pa, lo, .slice oa L cap] := (hxa.below hp3 hxa.lt).below h01 (Nat.lt_of_lt_of_le hxa.lt hp3.size)
  have hfb : Bx w1 fb 39 [.slice (some ⟨pr, 0, none⟩) L L] := by
    rw [hw1, hfb']
    exact Bx.new w0 _ [.slice (some ⟨pr, 0, none⟩) L L]
  have hpd := hp5.below h01
  have hb1 : Below w.heap.size w w1 := hba.trans ((hp3.mono hba.size).trans (h01.mono (Nat.le_trans hba.size hp3.size)))
  have hord : s < pr ∧ s < fb ∧ n0 ≤ s ∧ s < base ∧ pr < w1.heap.size ∧ fb < w1.heap.size ∧ pr ≠ fb := by
    have h1 : wa.heap.size = s + 1 := by rw [hwa, hs']; simp
    have h2 := hp3.size
    have h3 := hp5.rows.lt
    have h4 := h01.size
    have h5 := hfb.lt
    have h6 := HA.out.2.2.2.2.1
    omega
  have HW := Lib.hid (And.intro hb1 (And.intro hxs (And.intro hfb (And.intro hpd (And.intro hord (And.intro hs' hp4))))))
  clear hb1 hxs hfb hpd hord hs' hba hxa hwa hp1 hp2 hp3 hp4 hp5 h01 hw1 hfb'
  go_wp2
  refine wp_mono (Q := BackR w1 nm pa lo oa cap g L n nC s fb pr oc capC ni C) ?reg ?cont
  case reg =>
    have hSd : (fun w' => w'.cell? ⟨s, 0, none⟩ = some nm ∧ w'.cell? ⟨s, 1, none⟩ = some pa ∧ w'.cell? ⟨s, 2, none⟩ = some lo ∧ w'.cell? ⟨s, 3, none⟩ = some (.slice oa L cap)) w1.drew := by
      have h := HW.out.2.1
      exact ⟨h.cell 0, h.cell 1, h.cell 2, h.cell 3⟩
    refine wp_region_held_drew (S := (fun w' => w'.cell? ⟨s, 0, none⟩ = some nm ∧ w'.cell? ⟨s, 1, none⟩ = some pa ∧ w'.cell? ⟨s, 2, none⟩ = some lo ∧ w'.cell? ⟨s, 3, none⟩ = some (.slice oa L cap))) (by kernel_rfl) ?_ (fun hHeld => ?_)
    · exact hSd
    obtain ⟨wd, hwd⟩ : ∃ wd, wd = w1.drew := ⟨_, rfl⟩
    rw [← hwd] at hSd ⊢
    have HWD := Lib.hid hwd
    clear hwd
    refine wpAnyH_take (i := 0) (oi := { dst := some 15, op := Op.load 25 (Operand.tmp 3), type := 25, pos := "graph.go:67", after := #[], guard := none }) (v := ?vq0_1) rfl (by kernel_rfl) (by kernel_rfl) (by kernel_rfl) (fun _ _ _ h => h) (Or.inl ⟨by rfl, ?hq0_1⟩) (by assumption) ?_
    case hq0_1 => intro w hSw; (try dsimp only at hSw); go_simp; try (with_reducible rfl)
    (try simp only [Act.put, List.setIfInBounds_toArray, List.set_cons_zero, List.set_cons_succ])
    refine wpAnyH_take (i := 1) (oi := { dst := some 16, op := Op.move (Operand.tmp 1), type := 3, pos := "graph.go:67", after := #[], guard := none }) (v := ?vq1_2) rfl (by kernel_rfl) (by kernel_rfl) (by kernel_rfl) (fun _ _ _ h => h) (Or.inl ⟨by rfl, ?hq1_2⟩) (by assumption) ?_
    case hq1_2 => intro w hSw; (try dsimp only at hSw); go_simp; try (with_reducible rfl)
    (try simp only [Act.put, List.setIfInBounds_toArray, List.set_cons_zero, List.set_cons_succ])
    refine wpAnyH_take (i := 2) (oi := { dst := some 17, op := Op.move (Operand.tmp 2), type := 27, pos := "graph.go:67", after := #[], guard := none }) (v := ?vq2_3) rfl (by kernel_rfl) (by kernel_rfl) (by kernel_rfl) (fun _ _ _ h => h) (Or.inl ⟨by rfl, ?hq2_3⟩) (by assumption) ?_
    case hq2_3 => intro w hSw; (try dsimp only at hSw); go_simp; try (with_reducible rfl)
    (try simp only [Act.put, List.setIfInBounds_toArray, List.set_cons_zero, List.set_cons_succ])
    refine wpAnyH_take (i := 4) (oi := { dst := some 19, op := Op.fieldAddr 25 (Operand.tmp 3) 3, type := 0, pos := "graph.go:67", after := #[], guard := none }) (v := ?vq4_4) rfl (by kernel_rfl) (by kernel_rfl) (by kernel_rfl) (fun _ _ _ h => h) (Or.inl ⟨by rfl, ?hq4_4⟩) (by assumption) ?_
    case hq4_4 => intro w hSw; (try dsimp only at hSw); go_simp; try (with_reducible rfl)
    (try simp only [Act.put, List.setIfInBounds_toArray, List.set_cons_zero, List.set_cons_succ])
    refine wpAnyH_take (i := 5) (oi := { dst := some 20, op := Op.load 23 (Operand.tmp 19), type := 23, pos := "graph.go:67", after := #[{ on := 4, ground := Ground.data }], guard := none }) (v := ?vq5_5) rfl (by kernel_rfl) (by kernel_rfl) (by kernel_rfl) (fun _ _ _ h => h) (Or.inl ⟨by rfl, ?hq5_5⟩) (by assumption) ?_
    case hq5_5 => intro w hSw; (try dsimp only at hSw); go_simp; try (with_reducible rfl)
    (try simp only [Act.put, List.setIfInBounds_toArray, List.set_cons_zero, List.set_cons_succ])
    refine wpAnyH_take (i := 6) (oi := { dst := some 21, op := Op.call { callee := Callee.builtin Builtin.len, args := #[Operand.tmp 20], argTypes := #[23] }, type := 3, pos := "graph.go:67", after := #[{ on := 5, ground := Ground.data }], guard := none }) (v := ?vq6_6) rfl (by kernel_rfl) (by kernel_rfl) (by kernel_rfl) (fun _ _ _ h => h) (Or.inl ⟨by rfl, ?hq6_6⟩) (by assumption) ?_
    case hq6_6 => intro w hSw; (try dsimp only at hSw); go_simp; try (with_reducible rfl)
    (try simp only [Act.put, List.setIfInBounds_toArray, List.set_cons_zero, List.set_cons_succ])
    refine wpAnyH_ready (rs := [3]) (by kernel_rfl) (by simp) ?_
    refine AllReadyH.cons (o := { dst := some 18, op := Op.buildSlice 26 1 #[(0, Operand.const (Value.bool true))], type := 26, pos := "graph.go:67", after := #[], guard := none }) rfl (fun K hK => ?_) AllReadyH.nil
    go_simp
    obtain ⟨ua, hua⟩ : ∃ ua, ua = wd.heap.size := ⟨_, rfl⟩
    obtain ⟨Xa, hXa⟩ : ∃ Xa, Xa = wd.alloc (.cells #[.bool true] 4) := ⟨_, rfl⟩
    rw [← hXa, ← hua]
    have hSa : (fun w' => w'.cell? ⟨s, 0, none⟩ = some nm ∧ w'.cell? ⟨s, 1, none⟩ = some pa ∧ w'.cell? ⟨s, 2, none⟩ = some lo ∧ w'.cell? ⟨s, 3, none⟩ = some (.slice oa L cap)) Xa := by
      rw [hXa]
      exact ⟨cellA _ hSd.1, cellA _ hSd.2.1, cellA _ hSd.2.2.1, cellA _ hSd.2.2.2⟩
    have hta : Xa.cell? ⟨ua, 0, none⟩ = some (.bool true) := by
      rw [hXa, hua]
      exact (Bx.new wd 4 [.bool true]).cell 0
    have HRP := Lib.hid (repeat_any ua true L hL1 Xa hta)
    have HXA := Lib.hid (And.intro hXa hua)
    clear hXa hua hta
    refine hK.out _ _ hSa (fun hHeld => ?_)
    clear hK K
    (try simp only [Act.put, List.setIfInBounds_toArray, List.set_cons_zero, List.set_cons_succ])
    refine wpAnyH_ready (rs := [7]) (by kernel_rfl) (by simp) ?_
    refine AllReadyH.cons (o := { dst := some 22, op := Op.call { callee := Callee.value (Operand.func 36), args := #[Operand.tmp 18, Operand.tmp 21], argTypes := #[26, 3] }, type := 26, pos := "graph.go:67", after := #[{ on := 3, ground := Ground.data }, { on := 6, ground := Ground.data }], guard := none }) rfl (fun K hK => ?_) AllReadyH.nil
    go_simp
    refine HRP.out.mono ?_
    clear HRP
    rintro e X1 ⟨rb, rfl, hr1, hr2, hr3⟩
    have hS1 : (fun w' => w'.cell? ⟨s, 0, none⟩ = some nm ∧ w'.cell? ⟨s, 1, none⟩ = some pa ∧ w'.cell? ⟨s, 2, none⟩ = some lo ∧ w'.cell? ⟨s, 3, none⟩ = some (.slice oa L cap)) X1 := ⟨below_cell hr2 hSa.1, below_cell hr2 hSa.2.1, below_cell hr2 hSa.2.2.1, below_cell hr2 hSa.2.2.2⟩
    refine hK.out _ _ hS1 (fun hHeld => ?_)
    clear hK K
    have hX : w1.heap.size ≤ rb ∧ Below w1.heap.size w1 X1 := by
      obtain ⟨hXa, hua⟩ := HXA.out
      have h1 : Below w1.heap.size w1 Xa := by
        rw [hXa, HWD.out]
        exact (Below.refl _ w1).drew.alloc (by simp) _
      exact ⟨Nat.le_trans h1.size hr1, h1.trans (hr2.mono h1.size)⟩
    have HN : Go.RowKit.Hid (Calls Try.prog 27 #[.agg #[nm, pa, lo, .slice oa L cap], .int .i64 ni, .slice oc nC capC, .slice (some ⟨rb, 0, none⟩) L L, .bool true] X1 fun e w' => ∃ f, e = .returned (.pointer (some ⟨f, 0, none⟩)) ∧ NewF X1 w' f (⟨nm, pa, lo, oa, cap, g⟩ : Bv) n C rb (List.replicate L true).length (List.replicate L true) true (.slice none 0 0)) := Lib.hid (by
      obtain ⟨hB, hs, hC, hcs, hn0, hL, hnC, hni⟩ := HA.out
      obtain ⟨hb1, hxs, hfb, hpd, hord, hs', hp4⟩ := HW.out
      have hb2 : Below w.heap.size w X1 := hb1.trans (hX.2.mono hb1.size)
      have h := newFlow_any n0 (⟨nm, pa, lo, oa, cap, g⟩ : Bv) ni n oc capC C rb (List.replicate L true).length (List.replicate L true) [] true X1 hni (hB.below hb2 hn0) hs (hC.below hb2 hn0) hcs hn (Nat.le_trans hn0 hb2.size) (by rw [List.append_nil]; exact hr3) (by rw [List.length_replicate, hL])
      unfold Bv.v Bv.cs at h
      simp only [← hL, ← hnC] at h
      rw [show (List.replicate L true).length = L from List.length_replicate] at h ⊢
      exact h)
    have HX := Lib.hid (And.intro hX hr3)
    clear hr1 hr2 hr3 hX
    (try simp only [Act.put, List.setIfInBounds_toArray, List.set_cons_zero, List.set_cons_succ])
    refine wpAnyH_ready (rs := [8]) (by kernel_rfl) (by simp) ?_
    refine AllReadyH.cons (o := { dst := some 23, op := Op.call { callee := Callee.value (Operand.func 27), args := #[Operand.tmp 15, Operand.tmp 16, Operand.tmp 17, Operand.tmp 22, Operand.const (Value.bool true)], argTypes := #[25, 3, 27, 26, 4] }, type := 73, pos := "graph.go:67", after := #[{ on := 0, ground := Ground.data }, { on := 1, ground := Ground.data }, { on := 2, ground := Ground.data }, { on := 7, ground := Ground.data }, { on := 7, ground := Ground.chain }], guard := none }) rfl (fun K hK => ?_) AllReadyH.nil
    go_simp
    refine HN.out.mono ?_
    clear HN
    rintro e X2 ⟨f, rfl, hf⟩
    have hS2 : (fun w' => w'.cell? ⟨s, 0, none⟩ = some nm ∧ w'.cell? ⟨s, 1, none⟩ = some pa ∧ w'.cell? ⟨s, 2, none⟩ = some lo ∧ w'.cell? ⟨s, 3, none⟩ = some (.slice oa L cap)) X2 := by
      obtain ⟨m, base, bn, ba, Rn, Ra, l, rv, h⟩ := hf
      have hr2 := h.bel
      exact ⟨below_cell hr2 hS1.1, below_cell hr2 hS1.2.1, below_cell hr2 hS1.2.2.1, below_cell hr2 hS1.2.2.2⟩
    refine hK.out _ _ hS2 (fun hHeld => ?_)
    clear hK K
    (try simp only [Act.put, List.setIfInBounds_toArray, List.set_cons_zero, List.set_cons_succ])
    refine wpAnyH_take (i := 9) (oi := { dst := some 8, op := Op.assign (Operand.tmp 23), type := 73, pos := "graph.go:67", after := #[{ on := 8, ground := Ground.data }, { on := 8, ground := Ground.chain }, { on := 0, ground := Ground.phase }, { on := 1, ground := Ground.phase }, { on := 2, ground := Ground.phase }, { on := 3, ground := Ground.phase }, { on := 4, ground := Ground.phase }, { on := 5, ground := Ground.phase }, { on := 6, ground := Ground.phase }, { on := 7, ground := Ground.phase }, { on := 8, ground := Ground.phase }], guard := none }) (v := ?vq9_7) rfl (by kernel_rfl) (by kernel_rfl) (by kernel_rfl) (fun _ _ _ h => h) (Or.inl ⟨by rfl, ?hq9_7⟩) (by assumption) ?_
    case hq9_7 => intro w hSw; (try dsimp only at hSw); go_simp; try (with_reducible rfl)
    (try simp only [Act.put, List.setIfInBounds_toArray, List.set_cons_zero, List.set_cons_succ])
    refine wpAnyH_done (by kernel_rfl) ?_ _
    obtain ⟨hX, hr3⟩ := HX.out
    exact ⟨rb, f, ua, X1, rfl, hX.1, hX.2, hr3, hf⟩
  case cont =>
    intro e a' w2 hq
    cases e with
    | ret => exact hq.elim
    | exit id => exact hq.elim
    | goto t => exact hq.elim
    | panic ch => exact hq.elim
    | outgrown => exact hq.elim
    | normal =>
      obtain ⟨rb, f, ua, X1, rfl, hrb, hbX, hrbx, hNew⟩ := hq
      obtain ⟨m, base2, bn, ba, Rn, Ra, l, rv, hN⟩ := hNew
      obtain ⟨hB, hs, hC, hcs, hn0, hL, hnC, hni⟩ := HA.out
      obtain ⟨hb1, hxs, hfb, hpd, hord, hs', hp4⟩ := HW.out
      obtain ⟨V, hV⟩ : ∃ V, V = List.replicate L true := ⟨_, rfl⟩
      rw [← hV] at hrbx hN
      have hVL : V.length = L := by rw [hV, List.length_replicate]
      have hVl : V.length = g.length := by rw [hVL, hL]
      have hV1 : V.length ≤ 1000 := by omega
      have hVa : ∀ i, i ∈ ones V ↔ i < L := fun i => by rw [hV]; exact ones_all
      have hbwX : Below w.heap.size w X1 := hb1.trans (hbX.mono hb1.size)
      have hbw2 : Below w.heap.size w w2 := hbwX.trans (hN.bel.mono hbwX.size)
      have hrb2 : Bx w2 rb 4 (bC V ++ []) := by
        rw [List.append_nil]
        exact hrbx.below hN.bel hrbx.lt
      have hfb2 : Bx w2 fb 39 [.slice (some ⟨pr, 0, none⟩) L L] := (hfb.below hbX hfb.lt).below hN.bel (Nat.lt_of_lt_of_le hfb.lt hbX.size)
      have hpd2 := (hpd.below hbX).below hN.bel
      have hpl : ∀ (x : Nat) (v : Value) (b : Nat), vs[x]? = some v → v.ownBlock = some b → b < w1.heap.size := fun x v b h1 h2 => by
        obtain ⟨v', i1, i2⟩ := hpd.own x (List.getElem?_eq_some_iff.1 h1).1
        rw [h1] at i1
        cases i1
        exact (own_lt i2 h2).1
      have HBEG := Lib.hid (begin_any f m (⟨nm, pa, lo, oa, cap, g⟩ : Bv) n true (.slice none 0 0) (.slice (some ⟨bn, 0, none⟩) V.length V.length) (.slice (some ⟨ba, 0, none⟩) V.length V.length) rb V.length V [] false w2 hN.flow ⟨none, 0, 0, rfl⟩ hrb2 hVl hn hV1)
      have hfl := hN.flow.lt
      have HC := Lib.hid (And.intro hN (And.intro hrb2 (And.intro hfb2 (And.intro hpd2 (And.intro hpl (And.intro hbw2 (And.intro hVl (And.intro hVa (And.intro hVL (And.intro hbwX (And.intro hrb (And.intro hbX (And.intro hrbx hV)))))))))))))
      clear hN hrb2 hfb2 hpd2 hpl hbw2 hVl hVa hVL hbwX hB hs hC hcs hn0 hL hnC hni hb1 hxs hfb hpd hord hs' hp4 hrb hbX hrbx hV
      go_wp2_with (
        go_at_call 28
        refine HBEG.out.mono ?_
        clear HBEG
        rintro e w4 ⟨⟨u4, rfl⟩, bf, Rf, g1, g2, g3, g4, g5, g6⟩
        obtain ⟨hN, hrb2, hfb2, hpd2, hpl, hbw2, hVl, hVa, hVL, hbwX, hrb, hbX, hrbx, hV⟩ := HC.out
        obtain ⟨hB, hs, hC, hcs, hn0, hL, hnC, hni⟩ := HA.out
        obtain ⟨hb1, hxs, hfb, hpd, hord, hs', hp4⟩ := HW.out
        have hge := hN.ge
        have q1 := hbwX.size
        have q2 := hN.bel.size
        have q3 := g4.size
        have q4 := hbX.size
        have hmn4 := hN.mn.kep g4 (fun e => bx_ne hN.mn.rows hN.flow (by decide) e) (fun i hi e => bx_ne (hN.mn.row i hi).2 hN.flow (by decide) e)
        have hma4 := hN.ma.kep g4 (fun e => bx_ne hN.ma.rows hN.flow (by decide) e) (fun i hi e => bx_ne (hN.ma.row i hi).2 hN.flow (by decide) e)
        have lN : ∀ i ∈ ones V, Rn i < w2.heap.size ∧ Ra i < w2.heap.size := fun i hi => ⟨(hN.mn.row i hi).2.lt, (hN.ma.row i hi).2.lt⟩
        have hrb4 := hrb2.kep g4 (fun e => bx_ne hrb2 hN.flow (by decide) e)
        have hfb4 := hfb2.kep g4 (fun e => bx_ne hfb2 hN.flow (by decide) e)
        have hpr4 := hpd2.rows.kep g4 (fun e => bx_ne hpd2.rows hN.flow (by decide) e)
        have lrb := hrb2.lt
        have hown4 : ∀ x, x < L → ∃ v, vs[x]? = some v ∧ NRow w4 v (prdK g g.length x) := fun x hx => by
          obtain ⟨v, i1, i2⟩ := hpd2.own x (by omega)
          exact ⟨v, i1, own_nrow (own_kep i2 g4 (fun b hb e => by
            have h9 : f = b := e.symm
            subst h9
            exact own_ne i2 hN.flow (fun cs fr e => by cases e) hb))⟩
        obtain ⟨E, hE⟩ : ∃ E : SE, E = { n1 := 0, w0 := w4, f := f, m := m, B := ⟨nm, pa, lo, oa, cap, g⟩, n := n, cv := .slice (some ⟨rb, 0, none⟩) V.length V.length, back := true, bf := bf, bn := bn, ba := ba, c := V, Rf := Rf, Rn := Rn, Ra := Ra, N := allF g n C true false, A := allF g n C true true, so := true, next := prdK g g.length, P0 := fun b => b = fb ∨ b = pr ∨ ∃ (x : Nat) (v : Value), vs[x]? = some v ∧ v.ownBlock = some b } := ⟨_, rfl⟩
        have hP0 : ∀ b, (b = fb ∨ b = pr ∨ ∃ (x : Nat) (v : Value), vs[x]? = some v ∧ v.ownBlock = some b) → b < w1.heap.size := fun b hb => by
          rcases hb with h | h | ⟨x, v, h1, h2⟩
          · omega
          · omega
          · exact hpl x v b h1 h2
        have hOk : E.Ok := by
          rw [hE]
          exact ⟨g3, fun i hi j hj => by have := g2 i hi; have := lN j hj; show Rf i ≠ Rn j; omega, fun i hi j hj => by have := g2 i hi; have := lN j hj; show Rf i ≠ Ra j; omega, fun b hb => by
            have hbl := hP0 b hb
            exact ⟨by show b < w4.heap.size; omega, fun i hi => by have := g2 i hi; show b ≠ Rf i; omega⟩, fun p hp t ht => (hVa t).2 (by
              have h9 : t < g.length := prdK_lt ht
              omega), hn, hV1, fun j p => all_mono_any g n C true true j p⟩
        have hNX : NextOk E 37 55 (.pointer (some ⟨fb, 0, none⟩)) := by
          rw [hE]
          refine next_back _ fb pr L vs hfb4 hpr4 hVL.symm hL1 (fun x hx => ?_) (.inl rfl) (.inr (.inl rfl)) (fun x => ?_)
          · obtain ⟨v, i1, i2⟩ := hown4 x hx
            exact ⟨v, i1, i2, fun b n c e => .inr (.inr ⟨x, v, i1, by rw [e]; rfl⟩)⟩
          · have h9 : (prdK g g.length x).length ≤ g.length := by
              have := List.length_filter_le (fun i => decide (x ∈ tos g i)) (List.range g.length)
              rw [List.length_range] at this
              exact this
            show (prdK g g.length x).length ≤ 1000
            omega
        have hAt : E.At (fun _ => List.replicate n false) E.w0 := by
          rw [hE]
          exact ⟨g5, g6, hmn4, hma4⟩
        have hsp := spread_back E hOk (.pointer (some ⟨fb, 0, none⟩)) hNX _ rb V.length [] (by rw [hE]) hAt (by rw [hE]; exact hrb4) (by rw [hE]; intro i hi; have := g2 i hi; show rb ≠ Rf i; omega)
        have HSP : Go.RowKit.Hid (Calls Try.prog 29 #[.pointer (some ⟨f, 0, none⟩), .bool true, .func (.func 37) #[] #[.pointer (some ⟨fb, 0, none⟩)]] w4 fun e w' => (∃ u, e = .returned u) ∧ ∃ F, E.At F w' ∧ Kep (fun b => ∃ i ∈ ones V, b = Rf i) w4 w' ∧ Spr E (fun _ => List.replicate n false) n F) := Lib.hid (by
          have h := hsp
          rw [hE] at h ⊢
          exact h)
        have HD := Lib.hid (And.intro hE (And.intro g4 (And.intro g2 hrb4)))
        clear hN hrb2 hfb2 hpd2 hpl hbw2 hVl hVa hVL hbwX hrb hbX hrbx hV hB hs hC hcs hn0 hL hnC hni hb1 hxs hfb hpd hord hs' hp4 hge q1 q2 q3 q4 hmn4 hma4 lN hrb4 hfb4 hpr4 lrb hown4 hE hP0 hOk hNX hAt hsp g1 g2 g3 g4 g5 g6)
      refine HSP.out.mono ?_
      clear HSP
      rintro e w7 ⟨⟨u7, rfl⟩, F, p1, p2, p3⟩
      obtain ⟨hE, g4, g2, hrb4⟩ := HD.out
      obtain ⟨hN, hrb2, hfb2, hpd2, hpl, hbw2, hVl, hVa, hVL, hbwX, hrb, hbX, hrbx, hV⟩ := HC.out
      obtain ⟨hB, hs, hC, hcs, hn0, hL, hnC, hni⟩ := HA.out
      have k27 : Kep (fun b => b = f) w2 w7 := g4.sub p2 (fun i hi => by
        obtain ⟨j, hj, e⟩ := hi
        have := g2 j hj
        exact .inl (by omega))
      have hge := hN.ge
      have q1 := hbwX.size
      have hbw7 : Below w.heap.size w w7 := hbw2.trans (k27.to_below hbw2.size (fun q hq e => by omega))
      have p1' := p1
      rw [hE] at p1'
      have hFl : ∀ i ∈ ones V, (F i).length = n := fun i hi => (p1'.mf.row i hi).1
      have HST := Lib.hid (states_any n0 ⟨nm, pa, lo, oa, cap, g⟩ f m base2 bf l rv n C rb V.length V [] true (.slice (some ⟨bn, 0, none⟩) V.length V.length) (.slice (some ⟨ba, 0, none⟩) V.length V.length) Rf F w7 (hB.below hbw7 hn0) hs hcs p1'.flow (hN.ch.keep k27 (fun b hb => .inr ⟨_, _, hb ▸ hN.flow, by decide⟩)) p1'.mf (hrb2.kep k27 (fun e => bx_ne hrb2 hN.flow (by decide) e)) hVl hn (Nat.le_trans hn0 hbw7.size))
      have HF : Go.RowKit.Hid (BackF g n C V F ∧ Below w.heap.size w w7 ∧ ∀ i ∈ ones V, (F i).length = n) := Lib.hid ⟨⟨E, by rw [hE], by rw [hE], by rw [hE], by rw [hE], by rw [hE], by rw [hE], p3⟩, hbw7, hFl⟩
      clear hE g4 g2 hrb4 hN hrb2 hfb2 hpd2 hpl hbw2 hVl hVa hVL hbwX hrb hbX hrbx hV hB hs hC hcs hn0 hL hnC hni k27 hge q1 hbw7 p1' hFl p1 p2 p3
      go_wp2_with (go_at_call 32; refine HST.out.mono ?_; clear HST; rintro e w8 ⟨bl, rfl, s1, s2⟩; have H8 := Lib.hid (And.intro s1 s2); clear s1 s2)
      refine leaves_marks [] w8 (by simp) (fun D hD => by simp at hD) ⟨_, results_tmp rfl _ _ _, ?_⟩
      show BackT _ n C w _ w8
      obtain ⟨s1, s2⟩ := H8.out
      obtain ⟨hF1, hF2, hF3⟩ := HF.out
      obtain ⟨hN, hrb2, hfb2, hpd2, hpl, hbw2, hVl, hVa, hVL, hbwX, hrb, hbX, hrbx, hV⟩ := HC.out
      have hL := HA.out.2.2.2.2.2.1
      have hVg : List.replicate g.length true = V := by rw [hV, hL]
      unfold BackT
      rw [hVg, ← hVl]
      exact ⟨bl, F, rfl, hF2.trans (s1.mono hF2.size), hF3, hF1, s2⟩
end Go.Proofs.Ytfpdecjlfnambaa
