/-
  Graph: Flow. Conditions: the body, what starts, and the changes lie in the heap.
-/
import Derived.Test.YtfpdecjlfnambaaGFlowQ
import Derived.Test.YtfpdecjlfnambaaGFlowP
import Derived.Test.YtfpdecjlfnambaaGNextF
import Derived.Test.YtfpdecjlfnambaaGNewA
import Derived.Test.YtfpdecjlfnambaaGBegin
import Derived.Test.YtfpdecjlfnambaaGSprF
import Derived.Test.YtfpdecjlfnambaaGStates
namespace Go.Proofs.Ytfpdecjlfnambaa
open Go Go.RowKit

attribute [local go_sem] Oper.semAt_some

/-- Behind Flow's two first calls. -/
def FlowR (w1 : World) (nm pa lo : Value) (oa : Option Addr) (cap : Nat) (g : Gb) (L n nC ns s : Nat) (oc oS : Option Addr) (capC capS : Nat) (every : Bool) (ni : Int) (C : List Chg) : Exit → Act → World → Prop
  | .normal, a', w' => ∃ (rb f : Nat) (V : List Bool) (X1 : World), a' = { tmps := #[.agg #[nm, pa, lo, .slice oa L cap], .int .i64 ni, .slice oS ns capS, .slice oc nC capC, .bool every, .pointer (some ⟨s, 0, none⟩), undef, undef, undef, undef, .slice none 0 0, .pointer (some ⟨f, 0, none⟩), .pointer (some ⟨s, 3, none⟩), .slice oa L cap, .int .i64 (L : Int), .bool false, .agg #[nm, pa, lo, .slice oa L cap], .int .i64 ni, .slice oc nC capC, .agg #[nm, pa, lo, .slice oa L cap], .slice (some ⟨rb, 0, none⟩) L L, .pointer (some ⟨f, 0, none⟩), undef, undef, undef, undef, undef, undef, undef, undef, undef, undef, undef, undef, undef, undef, undef, undef, undef, undef, undef, undef, undef, undef, undef, undef], defers := [] } ∧ w1.heap.size ≤ rb ∧ Below w1.heap.size w1 X1 ∧ Bx X1 rb 4 (bC V) ∧ V.length = g.length ∧ (∀ i, i < g.length → (bitF V i = true ↔ Rch g i)) ∧ NewF X1 w' f (⟨nm, pa, lo, oa, cap, g⟩ : Bv) n C rb V.length V false (.slice none 0 0)
  | _, _, _ => False
/-- What Flow tells of the first states. -/
def FlowF (g : Gb) (n : Nat) (C : List Chg) (V start : List Bool) (every : Bool) (F : Nat → List Bool) : Prop :=
  ∃ E : SE, E.c = V ∧ E.n = n ∧ E.so = (!every) ∧ E.N = allF g n C false false ∧ E.A = allF g n C false true ∧ E.next = tos g ∧ Spr E (fun i => if i = 0 then iniF start n else List.replicate n every) n F

/-- What Flow comes to. -/
def FlowT (B : Bv) (n : Nat) (C : List Chg) (start : List Bool) (every : Bool) (w : World) (e : Ending) (w' : World) : Prop :=
  ∃ bl V F, e = .returned (.slice (some ⟨bl, 0, none⟩) V.length V.length) ∧ Below w.heap.size w w' ∧ V.length = B.g.length ∧ (∀ i, i < B.g.length → (bitF V i = true ↔ Rch B.g i)) ∧
      (∀ i ∈ ones V, (F i).length = n) ∧ FlowF B.g n C V start every F ∧ StK w' bl V (ones V).length (fun i => stO B.g n C false i (F i))

set_option maxRecDepth 100000 in
set_option maxHeartbeats 8000000 in
theorem flow_any (n0 : Nat) (B : Bv) (ni : Int) (n : Nat) (oS : Option Addr) (capS : Nat) (start : List Bool) (oc : Option Addr) (capC : Nat) (C : List Chg) (every : Bool) (w : World) (hni : n = ni.toNat) (hB : B.At n0 w) (hs : B.Small) (hS : BSrc n0 w oS start) (hC : CRow n0 w oc C) (hcs : CSmall C) (hn : n ≤ 1000) (hst : start.length ≤ 1000) (hn0 : n0 ≤ w.heap.size) (hL0 : 0 < B.g.length) :
    Calls Try.prog 13 #[B.v, .int .i64 ni, .slice oS start.length capS, .slice oc C.length capC, .bool every] w fun e w' => FlowT B n C start every w e w' := by
  obtain ⟨nm, pa, lo, oa, cap, g⟩ := B
  simp only at hs hL0 ⊢
  obtain ⟨L, hL⟩ : ∃ L, L = g.length := ⟨_, rfl⟩
  obtain ⟨nC, hnC⟩ : ∃ k, k = C.length := ⟨_, rfl⟩
  obtain ⟨ns, hns⟩ : ∃ k, k = start.length := ⟨_, rfl⟩
  have hL1 : L ≤ 1000 := by rw [hL]; exact hs.1
  have hL0' : 0 < L := by rw [hL]; exact hL0
  have HA := Lib.hid (And.intro hB (And.intro hs (And.intro hS (And.intro hC (And.intro hcs (And.intro hst (And.intro hn0 (And.intro hL (And.intro hnC (And.intro hns hni))))))))))
  rw [← hnC, ← hns]
  unfold Bv.v Bv.cs
  simp only [← hL]
  clear hB hs hS hC hcs hst hn0 hL hnC hns hni hL0
  refine calls_of_wp_marks Try.func13 rfl ?_
  simp only [Try.ntmps13, List.size_toArray, List.length_cons, List.length_nil, Nat.reduceAdd, Nat.reduceSub, Array.replicate_succ, Array.replicate_zero, List.push_toArray, List.append_toArray, List.nil_append, List.cons_append]
  go_upto_region 3 with fail
  obtain ⟨s, hs'⟩ : ∃ s, s = w.heap.size := ⟨_, rfl⟩
  rw [← hs']
  obtain ⟨w1, hw1⟩ : ∃ w1, w1 = w.alloc (.cells #[nm, pa, lo, .slice oa L cap] 25) := ⟨_, rfl⟩
  rw [← hw1]
  have hb1 : Below w.heap.size w w1 := by
    rw [hw1]
    exact (Below.refl _ _).alloc (Nat.le_refl _) _
  have hxs : Bx w1 s 25 [nm, pa, lo, .slice oa L cap] := by
    rw [hw1, hs']
    exact Bx.new w _ [nm, pa, lo, .slice oa L cap]
  have HW := Lib.hid (And.intro hb1 (And.intro hxs (And.intro hs' hw1)))
  clear hb1 hxs hs' hw1
  refine wp_mono (Q := FlowR w1 nm pa lo oa cap g L n nC ns s oc oS capC capS every ni C) ?reg ?cont
  case reg =>
    have hSd : (fun w' => w'.cell? ⟨s, 0, none⟩ = some nm ∧ w'.cell? ⟨s, 1, none⟩ = some pa ∧ w'.cell? ⟨s, 2, none⟩ = some lo ∧ w'.cell? ⟨s, 3, none⟩ = some (.slice oa L cap)) w1.drew := by
      have h := HW.out.2.1
      exact ⟨h.cell 0, h.cell 1, h.cell 2, h.cell 3⟩
    refine wp_region_held_drew (S := (fun w' => w'.cell? ⟨s, 0, none⟩ = some nm ∧ w'.cell? ⟨s, 1, none⟩ = some pa ∧ w'.cell? ⟨s, 2, none⟩ = some lo ∧ w'.cell? ⟨s, 3, none⟩ = some (.slice oa L cap))) (by kernel_rfl) ?_ (fun hHeld => ?_)
    · exact hSd
    obtain ⟨wd, hwd⟩ : ∃ wd, wd = w1.drew := ⟨_, rfl⟩
    have HR : Go.RowKit.Hid (Calls Try.prog 20 #[.agg #[nm, pa, lo, .slice oa L cap]] wd fun e w' =>
        ∃ rb V, e = .returned (.slice (some ⟨rb, 0, none⟩) L L) ∧ wd.heap.size ≤ rb ∧ Below wd.heap.size wd w' ∧ Bx w' rb 4 (bC V) ∧ V.length = L ∧ ∀ i, i < L → (bitF V i = true ↔ Rch g i)) := Lib.hid (by
      obtain ⟨hB, hs, hS, hC, hcs, hst, hn0, hL, hnC, hns, hni⟩ := HA.out
      obtain ⟨hb1, hxs, hs', hw1⟩ := HW.out
      have h := reach_any n0 (⟨nm, pa, lo, oa, cap, g⟩ : Bv) wd (by rw [hwd]; exact (hB.below hb1 hn0).below (Below.refl _ w1).drew (Nat.le_trans hn0 hb1.size)) hs (by rw [hwd]; exact Nat.le_trans hn0 hb1.size)
      unfold Bv.v Bv.cs at h
      simp only [← hL] at h
      exact h)
    rw [← hwd] at hSd ⊢
    have HWD := Lib.hid hwd
    clear hwd
    refine wpAnyH_take (i := 0) (oi := { dst := some 16, op := Op.load 25 (Operand.tmp 5), type := 25, pos := "graph.go:53", after := #[], guard := none }) (v := ?vq0_1) rfl (by kernel_rfl) (by kernel_rfl) (by kernel_rfl) (fun _ _ _ h => h) (Or.inl ⟨by rfl, ?hq0_1⟩) (by assumption) ?_
    case hq0_1 => intro w hSw; (try dsimp only at hSw); go_simp; try (with_reducible rfl)
    (try simp only [Act.put, List.setIfInBounds_toArray, List.set_cons_zero, List.set_cons_succ])
    refine wpAnyH_take (i := 1) (oi := { dst := some 17, op := Op.move (Operand.tmp 1), type := 3, pos := "graph.go:53", after := #[], guard := none }) (v := ?vq1_2) rfl (by kernel_rfl) (by kernel_rfl) (by kernel_rfl) (fun _ _ _ h => h) (Or.inl ⟨by rfl, ?hq1_2⟩) (by assumption) ?_
    case hq1_2 => intro w hSw; (try dsimp only at hSw); go_simp; try (with_reducible rfl)
    (try simp only [Act.put, List.setIfInBounds_toArray, List.set_cons_zero, List.set_cons_succ])
    refine wpAnyH_take (i := 2) (oi := { dst := some 18, op := Op.move (Operand.tmp 3), type := 27, pos := "graph.go:53", after := #[], guard := none }) (v := ?vq2_3) rfl (by kernel_rfl) (by kernel_rfl) (by kernel_rfl) (fun _ _ _ h => h) (Or.inl ⟨by rfl, ?hq2_3⟩) (by assumption) ?_
    case hq2_3 => intro w hSw; (try dsimp only at hSw); go_simp; try (with_reducible rfl)
    (try simp only [Act.put, List.setIfInBounds_toArray, List.set_cons_zero, List.set_cons_succ])
    refine wpAnyH_take (i := 3) (oi := { dst := some 19, op := Op.load 25 (Operand.tmp 5), type := 25, pos := "graph.go:53", after := #[], guard := none }) (v := ?vq3_4) rfl (by kernel_rfl) (by kernel_rfl) (by kernel_rfl) (fun _ _ _ h => h) (Or.inl ⟨by rfl, ?hq3_4⟩) (by assumption) ?_
    case hq3_4 => intro w hSw; (try dsimp only at hSw); go_simp; try (with_reducible rfl)
    (try simp only [Act.put, List.setIfInBounds_toArray, List.set_cons_zero, List.set_cons_succ])
    refine wpAnyH_ready (rs := [4]) (by kernel_rfl) (by simp) ?_
    refine AllReadyH.cons (o := { dst := some 20, op := Op.call { callee := Callee.value (Operand.func 20), args := #[Operand.tmp 19], argTypes := #[25] }, type := 26, pos := "graph.go:53", after := #[{ on := 3, ground := Ground.data }], guard := none }) rfl (fun K hK => ?_) AllReadyH.nil
    go_simp
    refine HR.out.mono ?_
    clear HR
    rintro e X1 ⟨rb, V, rfl, hr1, hr2, hr3, hr4, hr5⟩
    have hS1 : (fun w' => w'.cell? ⟨s, 0, none⟩ = some nm ∧ w'.cell? ⟨s, 1, none⟩ = some pa ∧ w'.cell? ⟨s, 2, none⟩ = some lo ∧ w'.cell? ⟨s, 3, none⟩ = some (.slice oa L cap)) X1 := ⟨below_cell hr2 hSd.1, below_cell hr2 hSd.2.1, below_cell hr2 hSd.2.2.1, below_cell hr2 hSd.2.2.2⟩
    refine hK.out _ _ hS1 (fun hHeld => ?_)
    clear hK K
    have HN : Go.RowKit.Hid (Calls Try.prog 27 #[.agg #[nm, pa, lo, .slice oa L cap], .int .i64 ni, .slice oc nC capC, .slice (some ⟨rb, 0, none⟩) L L, .bool false] X1 fun e w' => ∃ f, e = .returned (.pointer (some ⟨f, 0, none⟩)) ∧ NewF X1 w' f (⟨nm, pa, lo, oa, cap, g⟩ : Bv) n C rb V.length V false (.slice none 0 0)) := Lib.hid (by
      obtain ⟨hB, hs, hS, hC, hcs, hst, hn0, hL, hnC, hns, hni⟩ := HA.out
      obtain ⟨hb1, hxs, hs', hw1⟩ := HW.out
      have hb2 : Below w.heap.size w X1 := by
        have h := HWD.out
        have : Below w.heap.size w wd := by rw [h]; exact hb1.drew
        exact this.trans (hr2.mono this.size)
      have h := newFlow_any n0 (⟨nm, pa, lo, oa, cap, g⟩ : Bv) ni n oc capC C rb V.length V [] false X1 hni (hB.below hb2 hn0) hs (hC.below hb2 hn0) hcs hn (Nat.le_trans hn0 hb2.size) (by rw [List.append_nil]; exact hr3) (by rw [hr4, hL])
      unfold Bv.v Bv.cs at h
      simp only [← hL, ← hnC] at h
      rw [hr4] at h
      rw [hr4]
      exact h)
    have HX := Lib.hid (And.intro hr1 (And.intro hr2 (And.intro hr3 (And.intro hr4 hr5))))
    clear hr1 hr2 hr3 hr4 hr5
    (try simp only [Act.put, List.setIfInBounds_toArray, List.set_cons_zero, List.set_cons_succ])
    refine wpAnyH_ready (rs := [5]) (by kernel_rfl) (by simp) ?_
    refine AllReadyH.cons (o := { dst := some 21, op := Op.call { callee := Callee.value (Operand.func 27), args := #[Operand.tmp 16, Operand.tmp 17, Operand.tmp 18, Operand.tmp 20, Operand.const (Value.bool false)], argTypes := #[25, 3, 27, 26, 4] }, type := 73, pos := "graph.go:53", after := #[{ on := 0, ground := Ground.data }, { on := 1, ground := Ground.data }, { on := 2, ground := Ground.data }, { on := 4, ground := Ground.data }, { on := 4, ground := Ground.chain }], guard := none }) rfl (fun K hK => ?_) AllReadyH.nil
    go_simp
    refine HN.out.mono ?_
    clear HN
    rintro e X2 ⟨f, rfl, hf⟩
    have hS2 : (fun w' => w'.cell? ⟨s, 0, none⟩ = some nm ∧ w'.cell? ⟨s, 1, none⟩ = some pa ∧ w'.cell? ⟨s, 2, none⟩ = some lo ∧ w'.cell? ⟨s, 3, none⟩ = some (.slice oa L cap)) X2 := by
      obtain ⟨m, base, bn, ba, Rn, Ra, l, rv, h⟩ := hf
      have hr2 := h.bel
      exact ⟨below_cell hr2 hS1.1, below_cell hr2 hS1.2.1, below_cell hr2 hS1.2.2.1, below_cell hr2 hS1.2.2.2⟩
    refine hK.out _ _ hS2 (fun hHeld => ?_)
    clear hK K
    (try simp only [Act.put, List.setIfInBounds_toArray, List.set_cons_zero, List.set_cons_succ])
    refine wpAnyH_take (i := 6) (oi := { dst := some 11, op := Op.assign (Operand.tmp 21), type := 73, pos := "graph.go:53", after := #[{ on := 5, ground := Ground.data }, { on := 5, ground := Ground.chain }, { on := 0, ground := Ground.phase }, { on := 1, ground := Ground.phase }, { on := 2, ground := Ground.phase }, { on := 3, ground := Ground.phase }, { on := 4, ground := Ground.phase }, { on := 5, ground := Ground.phase }], guard := none }) (v := ?vq6_5) rfl (by kernel_rfl) (by kernel_rfl) (by kernel_rfl) (fun _ _ _ h => h) (Or.inl ⟨by rfl, ?hq6_5⟩) (by assumption) ?_
    case hq6_5 => intro w hSw; (try dsimp only at hSw); go_simp; try (with_reducible rfl)
    (try simp only [Act.put, List.setIfInBounds_toArray, List.set_cons_zero, List.set_cons_succ])
    refine wpAnyH_done (by kernel_rfl) ?_ _
    obtain ⟨hr1, hr2, hr3, hr4, hr5⟩ := HX.out
    have hL := HA.out.2.2.2.2.2.2.2.1
    have hwd := HWD.out
    have hb : Below w1.heap.size w1 X1 := by
      have : Below w1.heap.size w1 wd := by rw [hwd]; exact (Below.refl _ _).drew
      exact this.trans (hr2.mono this.size)
    exact ⟨rb, f, V, X1, rfl, by rw [hwd] at hr1; exact hr1, hb, hr3, by rw [hr4, hL], by rw [← hL]; exact hr5, hf⟩
  case cont =>
    intro e a' w2 hq
    cases e with
    | ret => exact hq.elim
    | exit id => exact hq.elim
    | goto t => exact hq.elim
    | panic ch => exact hq.elim
    | outgrown => exact hq.elim
    | normal =>
      obtain ⟨rb, f, V, X1, rfl, hrb, hbX, hrbx, hVl, hVr, hNew⟩ := hq
      obtain ⟨m, base, bn, ba, Rn, Ra, l, rv, hN⟩ := hNew
      obtain ⟨hB, hs, hS, hC, hcs, hst, hn0, hL, hnC, hns, hni⟩ := HA.out
      obtain ⟨hb1, hxs, hs', hw1⟩ := HW.out
      have hVL : V.length = L := by rw [hVl, hL]
      have hV1 : V.length ≤ 1000 := by omega
      have h0V : 0 ∈ ones V := ones_iff.2 ⟨by omega, (hVr 0 (by omega)).2 (.base (by show 0 < g.length; omega) rfl)⟩
      have hbwX : Below w.heap.size w X1 := hb1.trans (hbX.mono hb1.size)
      have hbw2 : Below w.heap.size w w2 := hbwX.trans (hN.bel.mono hbwX.size)
      have hrb2 : Bx w2 rb 4 (bC V ++ []) := by
        rw [List.append_nil]
        exact hrbx.below hN.bel hrbx.lt
      have hxs2 : Bx w2 s 25 [nm, pa, lo, .slice oa L cap] := (hxs.below hbX hxs.lt).below hN.bel (Nat.lt_of_lt_of_le hxs.lt hbX.size)
      have HBEG := Lib.hid (begin_any f m (⟨nm, pa, lo, oa, cap, g⟩ : Bv) n false (.slice none 0 0) (.slice (some ⟨bn, 0, none⟩) V.length V.length) (.slice (some ⟨ba, 0, none⟩) V.length V.length) rb V.length V [] every w2 hN.flow ⟨none, 0, 0, rfl⟩ hrb2 hVl hn hV1)
      have hsl := hxs.lt
      have hfl := hN.flow.lt
      have HC := Lib.hid (And.intro hN (And.intro hrb2 (And.intro hxs2 (And.intro hbw2 (And.intro hVl (And.intro hVr (And.intro hVL (And.intro hbwX (And.intro hrb (And.intro hbX hrbx))))))))))
      clear hN hrb2 hxs2 hbw2 hVl hVr hVL hbwX hB hs hS hC hcs hst hn0 hL hnC hns hni hb1 hxs hs' hw1 hrb hbX hrbx
      go_wp2_with (
        go_at_call 28
        refine HBEG.out.mono ?_
        clear HBEG
        rintro e w4 ⟨⟨u4, rfl⟩, bf, Rf, g1, g2, g3, g4, g5, g6⟩
        obtain ⟨hN, hrb2, hxs2, hbw2, hVl, hVr, hVL, hbwX, hrb, hbX, hrbx⟩ := HC.out
        obtain ⟨hB, hs, hS, hC, hcs, hst, hn0, hL, hnC, hns, hni⟩ := HA.out
        obtain ⟨hb1, hxs, hs', hw1⟩ := HW.out
        have hge := hN.ge
        have q1 := hbwX.size
        have q2 := hN.bel.size
        have hbw4 : Below w.heap.size w w4 := hbw2.trans (g4.to_below (by omega) (fun q hq e => by omega))
        have hr0 := (g6.row 0 h0V).2
        obtain ⟨w5, hcl, kc5, hc5⟩ := clear_row (Rf 0) n n (List.replicate n every) w4 hr0 (by simp) 0
        have hR0 := g2 0 h0V
        have hbw5 : Below w.heap.size w w5 := hbw4.trans (kc5.to_below (Nat.le_trans q1 (Nat.le_trans q2 g4.size)) (fun q hq e => by omega))
        obtain ⟨w6, hcp, kc6, hc6⟩ := copy_start n0 (Rf 0) n n oS capS ns start w5 hc5 (hS.below hbw5 hn0) hns
        have hbw6 : Below w.heap.size w w6 := hbw5.trans (kc6.to_below (Nat.le_trans hbw5.size (Nat.le_refl _)) (fun q hq e => by omega))
        have f5 := g5.kep kc5 (by omega)
        have m5 := g6.rows.kep kc5 (fun e => bx_ne g6.rows hr0 (by decide) e)
        have z1 := g5.cell 8
        have z3 := f5.cell 8
        simp [flC] at z1 z3
        rw [hVL] at z1 z3
        have z2 := g6.cellR h0V
        have z4 : w5.cell? ⟨bf, 0, none⟩ = some (.slice (some ⟨Rf 0, 0, none⟩) n n) := by rw [m5.cell, mC_at h0V]
        have k46 : Kep (fun b => b = Rf 0) w4 w6 := kc5.trans kc6
        have f6 := g5.kep k46 (by omega)
        have hmf : Mat w6 bf V n Rf (updF (fun _ => List.replicate n every) 0 (iniF start n)) := g6.upd h0V k46 hc6 (iniF_len _ _) g3
        have hmn4 := hN.mn.kep g4 (fun e => bx_ne hN.mn.rows hN.flow (by decide) e) (fun i hi e => bx_ne (hN.mn.row i hi).2 hN.flow (by decide) e)
        have hma4 := hN.ma.kep g4 (fun e => bx_ne hN.ma.rows hN.flow (by decide) e) (fun i hi e => bx_ne (hN.ma.row i hi).2 hN.flow (by decide) e)
        have lN : ∀ i ∈ ones V, Rn i < w2.heap.size ∧ Ra i < w2.heap.size := fun i hi => ⟨(hN.mn.row i hi).2.lt, (hN.ma.row i hi).2.lt⟩
        have lbn := hN.mn.rows.lt
        have lba := hN.ma.rows.lt
        have hmn := hmn4.kep k46 (by omega) (fun i hi => by have := lN i hi; omega)
        have hma := hma4.kep k46 (by omega) (fun i hi => by have := lN i hi; omega)
        have k26 : Kep (fun b => b = f) w2 w6 := g4.sub k46 (fun i hi => .inl (by omega))
        have hx6 := hxs2.kep k26 (fun e => bx_ne hxs2 hN.flow (by decide) e)
        have hrb6 := hrb2.kep k26 (fun e => bx_ne hrb2 hN.flow (by decide) e)
        have lrb := hrb2.lt
        have lxs := hxs2.lt
        obtain ⟨E, hE⟩ : ∃ E : SE, E = { n1 := 0, w0 := w6, f := f, m := m, B := ⟨nm, pa, lo, oa, cap, g⟩, n := n, cv := .slice (some ⟨rb, 0, none⟩) V.length V.length, back := false, bf := bf, bn := bn, ba := ba, c := V, Rf := Rf, Rn := Rn, Ra := Ra, N := allF g n C false false, A := allF g n C false true, so := !every, next := tos g, P0 := fun b => b < n0 ∨ b = s } := ⟨_, rfl⟩
        have hOk : E.Ok := by
          rw [hE]
          have h26 := k26.size
          exact ⟨g3, fun i hi j hj => by have := g2 i hi; have := lN j hj; show Rf i ≠ Rn j; omega, fun i hi j hj => by have := g2 i hi; have := lN j hj; show Rf i ≠ Ra j; omega, fun b hb => by
            have hb' : b < n0 ∨ b = s := hb
            have hbl : b < w2.heap.size := by rcases hb' with h | h <;> omega
            exact ⟨Nat.lt_of_lt_of_le hbl h26, fun i hi => by have := g2 i hi; show b ≠ Rf i; omega⟩, fun p hp t ht => reach_closed hVl hVr hp ht, hn, hV1, fun j p => all_mono_any g n C false (!every) j p⟩
        have hNX : NextOk E 30 49 (.pointer (some ⟨s, 0, none⟩)) := by
          rw [hE]
          exact next_flow _ n0 s (hB.below hbw6 hn0) hs (by show Bx w6 s _ _; rw [Bv.cs, ← hL]; exact hx6) (fun b => Iff.rfl) rfl hVl (Nat.le_trans hn0 hbw6.size)
        have hAt : E.At (updF (fun _ => List.replicate n every) 0 (iniF start n)) E.w0 := by
          rw [hE]
          exact ⟨f6, hmf, hmn, hma⟩
        have hsp := spread_flow E hOk (.pointer (some ⟨s, 0, none⟩)) hNX _ rb V.length [] (by rw [hE]) hAt (by rw [hE]; exact hrb6) (by rw [hE]; intro i hi; have := g2 i hi; show rb ≠ Rf i; omega)
        have HSP : Go.RowKit.Hid (Calls Try.prog 29 #[.pointer (some ⟨f, 0, none⟩), .bool (!every), .func (.func 30) #[] #[.pointer (some ⟨s, 0, none⟩)]] w6 fun e w' => (∃ u, e = .returned u) ∧ ∃ F, E.At F w' ∧ Kep (fun b => ∃ i ∈ ones V, b = Rf i) w6 w' ∧ Spr E (fun i => if i = 0 then iniF start n else List.replicate n every) n F) := Lib.hid (by
          have h := hsp
          rw [hE] at h ⊢
          exact h)
        have HD := Lib.hid (And.intro hE (And.intro k26 (And.intro hbw6 (And.intro g2 (And.intro hx6 hrb6)))))
        clear hN hrb2 hxs2 hbw2 hVl hVr hVL hbwX hrb hbX hrbx hB hs hS hC hcs hst hn0 hL hnC hns hni hb1 hxs hs' hw1 hge q1 q2 hbw4 hr0 kc5 hc5 hbw5 kc6 hc6 hbw6 f5 m5 k46 f6 hmf hmn4 hma4 lN lbn lba hmn hma k26 hx6 hrb6 lrb lxs hE hOk hNX hAt hsp g1 g2 g3 g4 g5 g6 hR0)
      refine HSP.out.mono ?_
      clear HSP
      rintro e w7 ⟨⟨u7, rfl⟩, F, p1, p2, p3⟩
      obtain ⟨hE, k26, hbw6, g2, hx6, hrb6⟩ := HD.out
      obtain ⟨hN, hrb2, hxs2, hbw2, hVl, hVr, hVL, hbwX, hrb, hbX, hrbx⟩ := HC.out
      obtain ⟨hB, hs, hS, hC, hcs, hst, hn0, hL, hnC, hns, hni⟩ := HA.out
      have k27 : Kep (fun b => b = f) w2 w7 := k26.sub p2 (fun i hi => by
        obtain ⟨j, hj, e⟩ := hi
        have := g2 j hj
        exact .inl (by omega))
      have hge := hN.ge
      have q1 := hbwX.size
      have hbw7 : Below w.heap.size w w7 := hbw2.trans (k27.to_below hbw2.size (fun q hq e => by omega))
      have p1' := p1
      rw [hE] at p1'
      have hFl : ∀ i ∈ ones V, (F i).length = n := fun i hi => (p1'.mf.row i hi).1
      have HST := Lib.hid (states_any n0 ⟨nm, pa, lo, oa, cap, g⟩ f m base bf l rv n C rb V.length V [] false (.slice (some ⟨bn, 0, none⟩) V.length V.length) (.slice (some ⟨ba, 0, none⟩) V.length V.length) Rf F w7 (hB.below hbw7 hn0) hs hcs p1'.flow (hN.ch.keep k27 (fun b hb => .inr ⟨_, _, hb ▸ hN.flow, by decide⟩)) p1'.mf (hrb2.kep k27 (fun e => bx_ne hrb2 hN.flow (by decide) e)) hVl hn (Nat.le_trans hn0 hbw7.size))
      have HF : Go.RowKit.Hid (FlowF g n C V start every F ∧ Below w.heap.size w w7 ∧ ∀ i ∈ ones V, (F i).length = n) := Lib.hid ⟨⟨E, by rw [hE], by rw [hE], by rw [hE], by rw [hE], by rw [hE], by rw [hE], p3⟩, hbw7, hFl⟩
      clear hE k26 hbw6 g2 hx6 hrb6 hN hrb2 hxs2 hbw2 hVl hVr hVL hbwX hrb hbX hrbx hB hs hS hC hcs hst hn0 hL hnC hns hni k27 hge q1 hbw7 p1' hFl p1 p2 p3
      go_wp2_with (go_at_call 32; refine HST.out.mono ?_; clear HST; rintro e w8 ⟨bl, rfl, s1, s2⟩; have H8 := Lib.hid (And.intro s1 s2); clear s1 s2)
      refine leaves_marks [] w8 (by simp) (fun D hD => by simp at hD) ⟨_, results_tmp rfl _ _ _, ?_⟩
      show FlowT _ n C start every w _ w8
      obtain ⟨s1, s2⟩ := H8.out
      obtain ⟨hF1, hF2, hF3⟩ := HF.out
      obtain ⟨hN, hrb2, hxs2, hbw2, hVl, hVr, hVL, hbwX, hrb, hbX, hrbx⟩ := HC.out
      exact ⟨bl, V, F, rfl, hF2.trans (s1.mono hF2.size), hVl, hVr, hF3, hF1, s2⟩
end Go.Proofs.Ytfpdecjlfnambaa
