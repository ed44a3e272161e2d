/-
  Graph's laws: works. No conditions.
-/
import Derived.Test.YtfpdecjlfnambaaGSpec
import Derived.WalkKit
import Derived.BigRegion
namespace Go.Proofs.Ytfpdecjlfnambaa
open Go Go.RowKit

/-- The laws' own example: a block with one step, which makes 0. -/
def gW : Gb := [(1, [])]
def cW : List Chg := [⟨0, 0, [0], []⟩]
theorem tosW (i : Nat) : tos gW i = [] := by
  cases i with
  | zero => rfl
  | succ i => cases i <;> rfl
theorem rchW : Rch gW 0 := .base (by decide) rfl
theorem spW {ok base : Nat → Prop} {next : Nat → List Nat} {lvs : Nat → Bool → Bool} (hb : ∀ i, ¬ base i) (hn : ∀ i, next i = []) (i : Nat) : ¬ Sp ok base next lvs i := fun h => by
  cases h with
  | base _ h => exact hb _ h
  | all _ _ h => rw [hn] at h; cases h
  | pass _ _ _ h => rw [hn] at h; cases h
theorem one_len {l : List Bool} (h : l.length = 1) : l = [l[0]?.getD false] := by
  match l, h with
  | [x], _ => rfl
theorem rd1_one {w : World} {v : Value} {x : Bool} (h : Rd1 w v [x]) : ∃ b o c, v = .slice (some ⟨b, o, none⟩) 1 c ∧ w.cell? ⟨b, o, none⟩ = some (.bool x) := by
  obtain ⟨oa, cap, h1, h2⟩ := h
  obtain ⟨b, off, rfl, h3⟩ := h2 (by simp)
  exact ⟨b, off, cap, h1, h3 0 (by simp)⟩
theorem rd3_one {w : World} {v : Value} {Z : List (List (List Bool))} {x y z : Bool} (h : Rd3 w v Z) (hZ : Z.length = 1) (hr : (rowZ Z 0).length = 3) (h0 : stateZ Z 0 0 = [x]) (h1 : stateZ Z 0 1 = [y]) (h2 : stateZ Z 0 2 = [z]) :
    ∃ b o c b' o' c' r0 p0 d0 r1 p1 d1 r2 p2 d2, v = .slice (some ⟨b, o, none⟩) 1 c ∧ w.cell? ⟨b, o, none⟩ = some (.slice (some ⟨b', o', none⟩) 3 c') ∧ w.cell? ⟨b', o', none⟩ = some (.slice (some ⟨r0, p0, none⟩) 1 d0) ∧ w.cell? ⟨b', o' + 1, none⟩ = some (.slice (some ⟨r1, p1, none⟩) 1 d1) ∧ w.cell? ⟨b', o' + 2, none⟩ = some (.slice (some ⟨r2, p2, none⟩) 1 d2) ∧
      w.cell? ⟨r0, p0, none⟩ = some (.bool x) ∧ w.cell? ⟨r1, p1, none⟩ = some (.bool y) ∧ w.cell? ⟨r2, p2, none⟩ = some (.bool z) := by
  obtain ⟨oa, c, a1, a2⟩ := h
  obtain ⟨b, o, rfl, a3⟩ := a2 (by omega)
  obtain ⟨u, a4, ob, c', a5, a6⟩ := a3 0 (by omega)
  have hr' : (Z[0]?.getD []).length = 3 := hr
  obtain ⟨b', o', rfl, a7⟩ := a6 (by omega)
  obtain ⟨u0, q0, q1⟩ := a7 0 (by omega)
  obtain ⟨u1, q2, q3⟩ := a7 1 (by omega)
  obtain ⟨u2, q4, q5⟩ := a7 2 (by omega)
  rw [show ((Z[0]?.getD [])[0]?.getD []) = [x] from h0] at q1
  rw [show ((Z[0]?.getD [])[1]?.getD []) = [y] from h1] at q3
  rw [show ((Z[0]?.getD [])[2]?.getD []) = [z] from h2] at q5
  obtain ⟨r0, p0, d0, rfl, m0⟩ := rd1_one q1
  obtain ⟨r1, p1, d1, rfl, m1⟩ := rd1_one q3
  obtain ⟨r2, p2, d2, rfl, m2⟩ := rd1_one q5
  rw [hr'] at a5
  subst a5
  exact ⟨b, o, c, b', o', c', r0, p0, d0, r1, p1, d1, r2, p2, d2, by rw [a1, hZ], a4, q0, q2, q4, m0, m1, m2⟩
theorem flowW {Z : List (List (List Bool))} (h : FlS gW 1 cW [] false Z) : Z.length = 1 ∧ (rowZ Z 0).length = 3 ∧ stateZ Z 0 0 = [false] ∧ stateZ Z 0 1 = [true] ∧ stateZ Z 0 2 = [true] := by
  have e0 : stateZ Z 0 0 = [false] := by
    have h1 := one_len (h.row 0 0 rchW (by decide))
    have h2 : valZ Z 0 0 0 = false := by
      cases hv : valZ Z 0 0 0
      · rfl
      · exact absurd ((h.first 0 0 rchW (by decide)).1 hv) (spW (fun i hb => by
          by_cases e : i = 0
          · subst e
            exact absurd hb (by decide)
          · simp only [if_neg e] at hb
            exact absurd hb (by decide)) tosW 0)
    rw [h1]
    exact congrArg (fun b => [b]) h2
  have e1 : stateZ Z 0 1 = [true] := by rw [h.step 0 0 rchW (by decide), e0]; decide
  have e2 : stateZ Z 0 2 = [true] := by rw [h.step 0 1 rchW (by decide), e1]; decide
  exact ⟨h.len, h.cnt 0 rchW, e0, e1, e2⟩
theorem backW {Z : List (List (List Bool))} (h : BkS gW 1 cW Z) : Z.length = 1 ∧ (rowZ Z 0).length = 3 ∧ stateZ Z 0 0 = [true] ∧ stateZ Z 0 1 = [false] ∧ stateZ Z 0 2 = [false] := by
  have e2 : stateZ Z 0 2 = [false] := by
    have h1 := one_len (h.row 0 2 (by decide) (by decide))
    have h2 : valZ Z 0 2 0 = false := by
      cases hv : valZ Z 0 2 0
      · rfl
      · exact absurd ((h.last 0 0 (by decide) (by decide)).1 hv) (spW (fun i h => h) (fun i => by
          show prdK gW 1 i = []
          simp [prdK, tosW]) 0)
    rw [h1]
    exact congrArg (fun b => [b]) h2
  have e1 : stateZ Z 0 1 = [false] := by rw [h.step 0 1 (by decide) (by decide), e2]; decide
  have e0 : stateZ Z 0 0 = [true] := by rw [h.step 0 0 (by decide) (by decide), e1]; decide
  exact ⟨h.len, h.cnt 0 (by decide), e0, e1, e2⟩

set_option maxRecDepth 100000 in
set_option maxHeartbeats 8000000 in
theorem works_any (w : World) : Calls Try.prog 10 #[] w fun e w' => e = .returned (.bool true) ∧ Below w.heap.size w w' := by
  refine calls_of_wp_marks Try.func10 rfl ?_
  simp only [Try.ntmps10, List.size_toArray, List.length_cons, List.length_nil, Nat.reduceAdd, Nat.reduceSub, Array.replicate_succ, Array.replicate_zero, List.push_toArray, List.append_toArray, List.nil_append, List.cons_append]
  go_upto_region 2 with fail
  obtain ⟨w1, hw1⟩ : ∃ w1, w1 = ((w.alloc (.cells #[.int .i64 0, .int .i64 0, .int .i64 0, .slice none 0 0, .int .i64 0, .slice none 0 0, .int .i64 0, .slice none 0 0, .int .i64 0, .int .i64 0, .bool false, .int .i64 0, .bool false, .int .i64 0, .slice none 0 0] 71)).alloc (.cells #[.slice (some ⟨w.heap.size, 0, none⟩) 1 1, .int .i64 0, .int .i64 0, .int .i64 0, .slice none 0 0, .int .i64 0, .slice none 0 0, .int .i64 0, .slice none 0 0, .int .i64 0, .int .i64 0, .bool false, .int .i64 0, .bool false, .int .i64 0, .slice none 0 0, .slice none 0 0] 58)).alloc (.cells #[.string { data := #[] }, .int .i64 0, .slice none 0 0, .slice (some ⟨w.heap.size + 1, 0, none⟩) 1 1] 25) := ⟨_, rfl⟩
  obtain ⟨s, hs⟩ : ∃ s, s = w.heap.size := ⟨_, rfl⟩
  rw [← hw1, ← hs]
  have hxb : Bx w1 (s + 1) 58 [.slice (some ⟨s, 0, none⟩) 1 1, .int .i64 0, .int .i64 0, .int .i64 0, .slice none 0 0, .int .i64 0, .slice none 0 0, .int .i64 0, .slice none 0 0, .int .i64 0, .int .i64 0, .bool false, .int .i64 0, .bool false, .int .i64 0, .slice none 0 0, .slice none 0 0] := by
    rw [hw1, hs]
    have := (Bx.new (w.alloc (.cells #[.int .i64 0, .int .i64 0, .int .i64 0, .slice none 0 0, .int .i64 0, .slice none 0 0, .int .i64 0, .slice none 0 0, .int .i64 0, .int .i64 0, .bool false, .int .i64 0, .bool false, .int .i64 0, .slice none 0 0] 71)) 58 [.slice (some ⟨w.heap.size, 0, none⟩) 1 1, .int .i64 0, .int .i64 0, .int .i64 0, .slice none 0 0, .int .i64 0, .slice none 0 0, .int .i64 0, .slice none 0 0, .int .i64 0, .int .i64 0, .bool false, .int .i64 0, .bool false, .int .i64 0, .slice none 0 0, .slice none 0 0]).alloc (.cells #[.string { data := #[] }, .int .i64 0, .slice none 0 0, .slice (some ⟨w.heap.size + 1, 0, none⟩) 1 1] 25)
    rwa [World.size_alloc] at this
  have hxs : Bx w1 (s + 1 + 1) 25 [.string { data := #[] }, .int .i64 0, .slice none 0 0, .slice (some ⟨s + 1, 0, none⟩) 1 1] := by
    rw [hw1, hs]
    have := Bx.new ((w.alloc (.cells #[.int .i64 0, .int .i64 0, .int .i64 0, .slice none 0 0, .int .i64 0, .slice none 0 0, .int .i64 0, .slice none 0 0, .int .i64 0, .int .i64 0, .bool false, .int .i64 0, .bool false, .int .i64 0, .slice none 0 0] 71)).alloc (.cells #[.slice (some ⟨w.heap.size, 0, none⟩) 1 1, .int .i64 0, .int .i64 0, .int .i64 0, .slice none 0 0, .int .i64 0, .slice none 0 0, .int .i64 0, .slice none 0 0, .int .i64 0, .int .i64 0, .bool false, .int .i64 0, .bool false, .int .i64 0, .slice none 0 0, .slice none 0 0] 58)) 25 [.string { data := #[] }, .int .i64 0, .slice none 0 0, .slice (some ⟨w.heap.size + 1, 0, none⟩) 1 1]
    rwa [World.size_alloc, World.size_alloc] at this
  have hbel : Below w.heap.size w w1 := by
    rw [hw1]
    exact (((Below.refl _ w).alloc (Nat.le_refl _) _).alloc (by simp) _).alloc (by simp; omega) _
  have hBat : ((⟨.string { data := #[] }, .int .i64 0, .slice none 0 0, some ⟨s + 1, 0, none⟩, 1, gW⟩ : Bv)).At w1.heap.size w1 := fun _ => ⟨s + 1, 0, rfl, hxb.lt, fun i hi => by
    obtain rfl : i = 0 := by
      have : i < 1 := hi
      omega
    exact ⟨⟨_, _, hxb.cell 0⟩, _, hxb.cell 16, none, 0, rfl, fun h => absurd (show 0 < (toR gW 0).length from h) (by decide)⟩⟩
  have hsm : ((⟨.string { data := #[] }, .int .i64 0, .slice none 0 0, some ⟨s + 1, 0, none⟩, 1, gW⟩ : Bv)).Small := ⟨(show gW.length ≤ 1000 by decide), fun i => by
    show insR gW i ≤ 1000 ∧ (toR gW i).length ≤ 1000
    cases i with
    | zero => exact ⟨by decide, by decide⟩
    | succ i => exact ⟨Nat.zero_le _, Nat.zero_le _⟩⟩
  have hcs : CSmall cW := ⟨by decide, fun c hc => by
    simp [cW] at hc
    subst hc
    decide⟩
  have HFL : Go.RowKit.Hid (∀ W0, w1.heap.size ≤ W0.heap.size → Below w1.heap.size w1 W0 → ∀ W, W = ((W0.alloc (.cells #[.int .i64 0] 3)).alloc (.cells #[.int .i64 0, .int .i64 0, .slice (some ⟨W0.heap.size, 0, none⟩) 1 1, .slice none 0 0] 66)) →
      (Calls Try.prog 13 #[.agg #[.string { data := #[] }, .int .i64 0, .slice none 0 0, .slice (some ⟨s + 1, 0, none⟩) 1 1], .int .i64 1, .slice none 0 0, .slice (some ⟨W0.heap.size + 1, 0, none⟩) 1 1, .bool false] W fun e w' => FlowZ gW 1 cW [] false W e w') ∧
      Calls Try.prog 16 #[.agg #[.string { data := #[] }, .int .i64 0, .slice none 0 0, .slice (some ⟨s + 1, 0, none⟩) 1 1], .int .i64 1, .slice (some ⟨W0.heap.size + 1, 0, none⟩) 1 1] W fun e w' => BackZ gW 1 cW W e w') := Lib.hid (by
    intro W0 h0 hb0 W hW
    have x1 : Bx W W0.heap.size 3 [.int .i64 0] := by
      rw [hW]
      exact (Bx.new W0 _ [.int .i64 0]).alloc _
    have x2 : Bx W (W0.heap.size + 1) 66 [.int .i64 0, .int .i64 0, .slice (some ⟨W0.heap.size, 0, none⟩) 1 1, .slice none 0 0] := by
      rw [hW]
      have := Bx.new (W0.alloc (.cells #[.int .i64 0] 3)) 66 [.int .i64 0, .int .i64 0, .slice (some ⟨W0.heap.size, 0, none⟩) 1 1, .slice none 0 0]
      rwa [World.size_alloc] at this
    have hbW : Below w1.heap.size w1 W := by
      rw [hW]
      exact (hb0.alloc h0 _).alloc (by simp; omega) _
    have hsz : W.heap.size = W0.heap.size + 1 + 1 := by rw [hW]; simp
    have hC : CRow W.heap.size W (some ⟨W0.heap.size + 1, 0, none⟩) cW := fun _ => ⟨_, 0, rfl, x2.lt, fun i hi => by
      obtain rfl : i = 0 := by
        have : i < 1 := hi
        omega
      exact ⟨x2.cell 0, x2.cell 1, ⟨_, x2.cell 2, _, 1, rfl, fun _ => ⟨W0.heap.size, 0, rfl, x1.lt, fun j hj => by
        obtain rfl : j = 0 := by
          have : j < 1 := hj
          omega
        exact x1.cell 0⟩⟩, _, x2.cell 3, none, 0, rfl, fun h => absurd h (by decide)⟩⟩
    have hB := hBat.below hbW (Nat.le_refl _)
    have hB' : ((⟨.string { data := #[] }, .int .i64 0, .slice none 0 0, some ⟨s + 1, 0, none⟩, 1, gW⟩ : Bv)).At W.heap.size W := fun hl => by
      obtain ⟨b, off, h3, h4, h5⟩ := hB hl
      refine ⟨b, off, h3, Nat.lt_of_lt_of_le h4 hbW.size, fun i hi => ?_⟩
      obtain ⟨a1, vt, a2, a3⟩ := h5 i hi
      exact ⟨a1, vt, a2, a3.mono hbW.size⟩
    exact ⟨flowZ_any W.heap.size (⟨.string { data := #[] }, .int .i64 0, .slice none 0 0, some ⟨s + 1, 0, none⟩, 1, gW⟩ : Bv) 1 none 0 [] (some ⟨W0.heap.size + 1, 0, none⟩) 1 cW false W hB' hsm (fun h => absurd h (by decide)) hC hcs (by decide) (by decide) (Nat.le_refl _),
      backZ_any W.heap.size (⟨.string { data := #[] }, .int .i64 0, .slice none 0 0, some ⟨s + 1, 0, none⟩, 1, gW⟩ : Bv) 1 (some ⟨W0.heap.size + 1, 0, none⟩) 1 cW W hB' hsm hC hcs (by decide) (Nat.le_refl _)⟩)
  have HR : Go.RowKit.Hid (∀ W, Below w1.heap.size w1 W → Calls Try.prog 20 #[.agg #[.string { data := #[] }, .int .i64 0, .slice none 0 0, .slice (some ⟨s + 1, 0, none⟩) 1 1]] W fun e w' => ∃ rb, e = .returned (.slice (some ⟨rb, 0, none⟩) 1 1) ∧ Below W.heap.size W w') := Lib.hid (by
    intro W hb
    refine (reach_any w1.heap.size (⟨.string { data := #[] }, .int .i64 0, .slice none 0 0, some ⟨s + 1, 0, none⟩, 1, gW⟩ : Bv) W (hBat.below hb (Nat.le_refl _)) hsm hb.size).mono ?_
    rintro e w' ⟨rb, V, rfl, h1, h2, h3, h4, h5⟩
    exact ⟨rb, rfl, h2⟩)
  have e0 := hxs.cell 0
  have e1 := hxs.cell 1
  have e2 := hxs.cell 2
  have e3 := hxs.cell 3
  simp at e0 e1 e2 e3
  have HW := Lib.hid (And.intro hxs hbel)
  clear hxb hxs hbel hBat hsm hcs hs hw1
  go_wp2_with (
    go_at_call 13
    refine (HFL.out w1 (Nat.le_refl _) (Below.refl _ _) _ rfl).1.mono ?_
    rintro e w2 ⟨v, Z, rfl, k1, k2, k3⟩
    clear e0 e1 e2 e3
    obtain ⟨z1, z2, z3, z4, z5⟩ := flowW k3
    obtain ⟨b, o, c, b', o', c', r0, p0, d0, r1, p1, d1, r2, p2, d2, rfl, c0, c1, c2, c3, c4, c5, c6⟩ := rd3_one k2 z1 z2 z3 z4 z5
    have hb2 : Below w1.heap.size w1 w2 := ((((Below.refl _ w1).alloc (Nat.le_refl _) _).alloc (by simp) _)).trans (k1.mono (by simp; omega))
    have hx2 := HW.out.1.below hb2 HW.out.1.lt
    have e0 := hx2.cell 0
    have e1 := hx2.cell 1
    have e2 := hx2.cell 2
    have e3 := hx2.cell 3
    simp at e0 e1 e2 e3
    have HF := Lib.hid (And.intro c0 (And.intro c1 (And.intro c2 (And.intro c3 (And.intro c4 (And.intro c5 (And.intro c6 hb2)))))))
    clear k1 k2 k3 z1 z2 z3 z4 z5 c0 c1 c2 c3 c4 c5 c6 hb2 hx2)
  go_upto_region 4 with (
    go_at_call 16
    refine (HFL.out w2 HF.out.2.2.2.2.2.2.2.size HF.out.2.2.2.2.2.2.2 _ rfl).2.mono ?_
    rintro e w3 ⟨v, Z, rfl, k1, k2, k3⟩
    clear e0 e1 e2 e3
    obtain ⟨z1, z2, z3, z4, z5⟩ := backW k3
    obtain ⟨xb, xo, xc, xb', xo', xc', xr0, xp0, xd0, xr1, xp1, xd1, xr2, xp2, xd2, rfl, g0, g1, g2, g3, g4, g5, g6⟩ := rd3_one k2 z1 z2 z3 z4 z5
    have h23 : Below w2.heap.size w2 w3 := ((((Below.refl _ w2).alloc (Nat.le_refl _) _).alloc (by simp) _)).trans (k1.mono (by simp; omega))
    obtain ⟨c0, c1, c2, c3, c4, c5, c6, hb2⟩ := HF.out
    have f0 := below_cell h23 c0
    have f1 := below_cell h23 c1
    have f2 := below_cell h23 c2
    have f3 := below_cell h23 c3
    have f4 := below_cell h23 c4
    have f5 := below_cell h23 c5
    have f6 := below_cell h23 c6
    have hb3 := hb2.trans (h23.mono hb2.size)
    have hx3 := HW.out.1.below hb3 HW.out.1.lt
    have e0 := hx3.cell 0
    have e1 := hx3.cell 1
    have e2 := hx3.cell 2
    have e3 := hx3.cell 3
    simp at e0 e1 e2 e3
    have HG := Lib.hid hb3
    clear k1 k2 k3 z1 z2 z3 z4 z5 h23 c0 c1 c2 c3 c4 c5 c6 hb2 hb3 hx3 HFL HF)
  go_upto_region 6 with fail
  go_wp2_with (go_at_call 20; refine (HR.out _ HG.out).mono ?_; rintro e w9 ⟨rb, rfl, h9⟩; have H9 := Lib.hid h9; clear h9 f0 f1 f2 f3 f4 f5 f6 g0 g1 g2 g3 g4 g5 g6 e0 e1 e2 e3)
  refine leaves_marks [] w9 (by simp) (fun D hD => by simp at hD) ⟨_, results_tmp rfl _ _ _, ?_⟩
  have hb := HG.out
  exact ⟨rfl, HW.out.2.trans ((hb.trans (H9.out.mono hb.size)).mono HW.out.2.size)⟩
end Go.Proofs.Ytfpdecjlfnambaa
