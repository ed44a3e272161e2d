/-
  Graph: Reach. Conditions: the body lies in the heap, and is small.
-/
import Derived.Test.YtfpdecjlfnambaaGReachL
namespace Go.Proofs.Ytfpdecjlfnambaa
open Go Go.RowKit Go.Shelf

/-- Which blocks are reached. -/
abbrev Rch (g : Gb) : Nat → Prop := Sp (fun i => i < g.length) (fun i => i = 0) (tos g) idL

set_option maxRecDepth 100000 in
set_option maxHeartbeats 4000000 in
theorem reach_any (n0 : Nat) (B : Bv) (w : World) (hB : B.At n0 w) (hs : B.Small) (hn0 : n0 ≤ w.heap.size) : Calls Try.prog 20 #[B.v] w fun e w' =>
    ∃ rb V, e = .returned (.slice (some ⟨rb, 0, none⟩) B.g.length B.g.length) ∧ w.heap.size ≤ rb ∧ Below w.heap.size w w' ∧ Bx w' rb 4 (bC V) ∧ V.length = B.g.length ∧ ∀ i, i < B.g.length → (bitF V i = true ↔ Rch B.g i) := by
  obtain ⟨nm, pa, lo, oa, cap, g⟩ := B
  simp only at hs ⊢
  obtain ⟨L, hL⟩ : ∃ L, L = g.length := ⟨_, rfl⟩
  have hL1 : L ≤ 1000 := by rw [hL]; exact hs.1
  have hmk := make_bools L hL1
  have HA := Lib.hid (And.intro hB (And.intro hs (And.intro hn0 hL)))
  unfold Bv.v Bv.cs
  simp only [← hL]
  clear hB hs hn0 hL
  rcases Nat.eq_zero_or_pos L with h0 | h0
  · subst h0
    have hmk0 : ∀ w : World, (Instr.makeSlice 26 (.int .i64 0) (.int .i64 0)).run Try.prog w = .ok (.slice (some ⟨w.heap.size, 0, none⟩) 0 0) (w.alloc (.cells #[] 4)) := fun w => make_bools 0 (by omega) w
    clear hmk
    go_enter Try.func20, Try.ntmps20
    go_wp2
    go_ret
    obtain ⟨hB, hs, hn0, hL⟩ := HA.out
    refine ⟨w.heap.size + 1, [], rfl, Nat.le_succ _, (((Below.refl _ w).alloc (Nat.le_refl _) _).alloc (by simp) _).alloc (by simp; omega) _, ?_, by first | rfl | (rw [← hL]; rfl), fun i hi => absurd hi (by omega)⟩
    have := (Bx.new (w.alloc (.cells #[nm, pa, lo, .slice oa 0 cap] 25)) 4 (bC [])).alloc (.cells #[.slice (some ⟨w.heap.size + 1, 0, none⟩) 0 0] 26)
    rw [World.size_alloc] at this
    simpa using this
  · go_enter Try.func20, Try.ntmps20
    go_upto_region 4 with fail
    obtain ⟨W, hW⟩ : ∃ W, W = (((w.alloc (.cells #[nm, pa, lo, .slice oa L cap] 25)).alloc (.cells (Array.replicate L (.bool false)) 4)).alloc (.cells #[.slice (some ⟨w.heap.size + 1, 0, none⟩) L L] 26)) := ⟨_, rfl⟩
    obtain ⟨s, hs⟩ : ∃ s, s = w.heap.size := ⟨_, rfl⟩
    have v1 : Bx W s 25 [nm, pa, lo, .slice oa L cap] := by
      rw [hW, hs]
      exact ((Bx.new w _ [nm, pa, lo, .slice oa L cap]).alloc _).alloc _
    have er : Array.replicate L (Value.bool false) = (bC (List.replicate L false)).toArray := by simp [bC]
    have v2 : Bx W (s + 1) 4 (bC (List.replicate L false)) := by
      rw [hW, hs, er]
      have := (Bx.new (w.alloc (.cells #[nm, pa, lo, .slice oa L cap] 25)) 4 (bC (List.replicate L false))).alloc (.cells #[.slice (some ⟨w.heap.size + 1, 0, none⟩) L L] 26)
      rwa [World.size_alloc] at this
    have v3 : Bx W (s + 1 + 1) 26 [.slice (some ⟨s + 1, 0, none⟩) L L] := by
      rw [hW, hs]
      have := Bx.new ((w.alloc (.cells #[nm, pa, lo, .slice oa L cap] 25)).alloc (.cells (Array.replicate L (.bool false)) 4)) 26 [.slice (some ⟨w.heap.size + 1, 0, none⟩) L L]
      rwa [World.size_alloc, World.size_alloc] at this
    have hsz : W.heap.size = s + 1 + 1 + 1 := by rw [hW, hs]; simp
    have hbel : Below w.heap.size w W := by
      rw [hW]
      exact (((Below.refl _ w).alloc (Nat.le_refl _) _).alloc (by simp) _).alloc (by simp; omega) _
    rw [← hW, ← hs]
    have y1 := v3.cell 0
    simp at y1
    have y2 := v2.cell 0
    rw [bC_get (by simp; omega)] at y2
    have y3 := v2.frozen 0
    obtain ⟨W2, hW2⟩ : ∃ W2, W2 = (W.setCell ⟨s + 1, 0, none⟩ (.bool true)).alloc (.cells #[.int .i64 0] 3) := ⟨_, rfl⟩
    obtain ⟨hB, hss, hn0, hL⟩ := HA.out
    have u2 : Bx W2 (s + 1) 4 (bC ((List.replicate L false).set 0 true)) := by
      rw [hW2, ← bC_set]
      exact (v2.set 0 (.bool true)).alloc _
    have u1 : Bx W2 s 25 [nm, pa, lo, .slice oa L cap] := by
      rw [hW2]
      exact (v1.far (show s + 1 ≠ s by omega) _).alloc _
    have u3 : Bx W2 (s + 1 + 1) 26 [.slice (some ⟨s + 1, 0, none⟩) L L] := by
      rw [hW2]
      exact (v3.far (show s + 1 ≠ s + 1 + 1 by omega) _).alloc _
    have u4 : Bx W2 (s + 1 + 1 + 1) 3 [.int .i64 0] := by
      rw [hW2]
      have := Bx.new (W.setCell ⟨s + 1, 0, none⟩ (.bool true)) 3 [.int .i64 0]
      rw [show (W.setCell ⟨s + 1, 0, none⟩ (.bool true)).heap.size = s + 1 + 1 + 1 by simp [World.setCell]; exact hsz] at this
      exact this
    have hsz2 : W2.heap.size = s + 1 + 1 + 1 + 1 := by rw [hW2]; simp [World.setCell]; exact hsz
    have hbel2 : Below w.heap.size w W2 := by
      rw [hW2]
      exact (hbel.setCell (by show w.heap.size ≤ s + 1; omega) _).alloc (by simp [World.setCell]; omega) _
    have hbit : bitF ((List.replicate L false).set 0 true) = fun i => decide (i = 0) := by
      funext i
      unfold bitF
      rw [List.getElem?_set]
      by_cases e : i = 0
      · subst e
        simp [h0]
      · rw [if_neg (fun x => e x.symm)]
        simp [e, List.getElem?_replicate]
        split <;> rfl
    have hfull : Full (fun i => i < g.length) (fun i => i = 0) (tos g) idL (bitF ((List.replicate L false).set 0 true)) [0] := by
      rw [hbit]
      refine ⟨fun i hi hf => .base hi (by simpa using hf), fun i hi hb => by simpa using hb, fun p hp hl hq t ht => ?_, fun p hp => ?_⟩
      · have : p = 0 := by simpa using hl
        exact absurd (by simp [this]) hq
      · have : p = 0 := by simpa using hp
        exact ⟨by omega, by simp [this]⟩
    have hcnt : cnt g.length idL (bitF ((List.replicate L false).set 0 true)) ≤ 1000 := by
      unfold cnt
      refine Nat.le_trans (List.length_filter_le _ _) ?_
      rw [List.length_range]
      omega
    have hj : RJ (s + 1 + 1 + 1) w ⟨nm, pa, lo, oa, cap, g⟩ (s + 1) s (s + 1 + 1) (1 + cnt g.length idL (bitF ((List.replicate L false).set 0 true))) [0] W2 :=
      ⟨by omega, hbel2, by rw [hL] at u1; exact u1, by rw [hL] at u3; exact u3, _, by simp [hL], u2, hfull, rfl, by omega⟩
    have HS := Lib.hid (settle_reach (s + 1 + 1 + 1) (.pointer (some ⟨s, 0, none⟩)) (.pointer (some ⟨s + 1 + 1, 0, none⟩)) (RJ (s + 1 + 1 + 1) w ⟨nm, pa, lo, oa, cap, g⟩ (s + 1) s (s + 1 + 1))
      (fun μ Q A A' h hb => by
        obtain ⟨h1, h2, h3, h4, V, h5, h6, h7⟩ := h
        exact ⟨by have := hb.size; omega, h2.trans (hb.mono (by omega)), h3.below hb (by omega), h4.below hb (by omega), V, h5, h6.below hb (by omega), h7⟩)
      (fun μ Q A h => by
        obtain ⟨h1, h2, h3, h4, V, h5, h6, h7, h8, h9⟩ := h
        exact ⟨by omega, h1⟩)
      (fun qb μ x Q A v hq hj => look_reach n0 _ w ⟨nm, pa, lo, oa, cap, g⟩ hB hss hn0 (s + 1) s (s + 1 + 1) ⟨by omega, by omega⟩ ⟨by omega, by omega⟩ ⟨by omega, by omega⟩ qb μ x Q A v hq hj)
      (.slice (some ⟨s + 1 + 1 + 1, 0, none⟩) 1 1) [0] _ W2 (.inr ⟨s + 1 + 1 + 1, 0, 1, _, rfl, u4, by simp, by simp, fun j hj => by
        have : j = 0 := by simpa using hj
        subst this
        rfl⟩) (fun b hb => by simp [Value.ownBlock] at hb; omega) hj)
    have HW2 := Lib.hid hW2
    have HZ := Lib.hid (And.intro hs hL)
    have hszW : W.heap.size = s + 1 + 1 + 1 := hsz
    clear er hmk hW v1 v2 v3 hsz hbel u1 u2 u3 u4 hsz2 hbel2 hbit hfull hcnt hj hB hss hn0 hL hs hW2
    go_wp2_with (go_at_call 40; rw [← HW2.out]; refine HS.out.mono ?_; rintro e w5 ⟨⟨u, rfl⟩, μ', hj'⟩; have y9 := hj'.2.2.2.1.cell 0; simp at y9; rw [← HZ.out.2] at y9; have H5 := Lib.hid hj'; clear hj' HS)
    go_ret
    obtain ⟨h1, h2, h3, h4, V, h5, h6, h7, h8, h9⟩ := H5.out
    obtain ⟨hs, hL⟩ := HZ.out
    refine ⟨s + 1, V, rfl, by omega, h2, h6, by rw [hL]; exact h5, fun i hi => ?_⟩
    exact h7.all (fun p h => by cases h) i (by show i < g.length; omega)

end Go.Proofs.Ytfpdecjlfnambaa
