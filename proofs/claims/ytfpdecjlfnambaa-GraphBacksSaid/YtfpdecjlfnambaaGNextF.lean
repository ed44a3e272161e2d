/-
  Graph: where Flow's spread goes. Conditions: the body lies in the heap, and its box.
-/
import Derived.Test.YtfpdecjlfnambaaGSpreadP
namespace Go.Proofs.Ytfpdecjlfnambaa
open Go Go.RowKit Go.Shelf

theorem at_heap {B : Bv} {n0 : Nat} {w W : World} (h : B.At n0 w) (hs : w.heap.size ≤ W.heap.size) (hh : ∀ b, b < n0 → W.heap[b]? = w.heap[b]?) : B.At n0 W := by
  have h1 : B.At n0 { W with heap := w.heap } := h
  exact h1.below (n := n0) ⟨rfl, rfl, rfl, hs, fun b hb => hh b hb⟩ (Nat.le_refl _)

set_option maxRecDepth 100000 in
set_option maxHeartbeats 4000000 in
theorem next_flow (E : SE) (n0 bb : Nat) (hAt : E.B.At n0 E.w0) (hs : E.B.Small) (hb : Bx E.w0 bb 25 E.B.cs) (hP : ∀ b, E.P0 b ↔ b < n0 ∨ b = bb) (hn : E.next = tos E.B.g) (hc : E.c.length = E.B.g.length) (hn0 : n0 ≤ E.w0.heap.size) :
    NextOk E 30 49 (.pointer (some ⟨bb, 0, none⟩)) := by
  intro x hx W hW hsame
  have hxg : x < E.B.g.length := by rw [← hc]; exact (ones_lt hx).1
  have hAtW : E.B.At n0 W := at_heap hAt hW (fun b hb => hsame b ((hP b).2 (.inl hb)))
  have hbW : Bx W bb 25 E.B.cs := hb.of_heap (hsame bb ((hP bb).2 (.inr rfl)))
  rw [hn]
  obtain ⟨B, hBe⟩ : ∃ B, B = E.B := ⟨_, rfl⟩
  rw [← hBe] at hAtW hbW hxg hs ⊢
  have hPl := Lib.hid hP
  clear hAt hb hP hn hc hBe hsame
  have hc := hbW
  obtain ⟨nm, pa, lo, oa, cap, g⟩ := B
  have c0 := hc.cell 0
  have c1 := hc.cell 1
  have c2 := hc.cell 2
  have c3 := hc.cell 3
  simp [Bv.cs] at c0 c1 c2 c3
  obtain ⟨L, hL⟩ : ∃ L, L = g.length := ⟨_, rfl⟩
  rw [← hL] at c3
  have HA := Lib.hid (And.intro hAtW (And.intro hbW (And.intro hxg (And.intro hs hL))))
  have hg := goes_any ⟨nm, pa, lo, oa, cap, g⟩ x W
  unfold Bv.v Bv.cs at hg
  simp only [← hL] at hg
  have HG := Lib.hid hg
  clear hAtW hbW hxg hs hc hg hL
  go_enter Try.func30, Try.ntmps30
  go_wp2_with (go_at_call 31; refine HG.out.mono ?_; rintro e w' ⟨rfl, rfl⟩)
  go_ret
  obtain ⟨hAtW, hbW, hxg, hs, hL⟩ := HA.out
  subst hL
  have h1 := Bx.new W 25 [nm, pa, lo, .slice oa g.length cap]
  have h2 := Bx.new (W.alloc (.cells #[nm, pa, lo, .slice oa g.length cap] 25)) 3 [.int .i64 (x : Int)]
  rw [World.size_alloc] at h2
  have hbel : Below W.heap.size W ((W.alloc (.cells #[nm, pa, lo, .slice oa g.length cap] 25)).alloc (.cells #[.int .i64 (x : Int)] 3)) := ((Below.refl _ _).alloc (Nat.le_refl _) _).alloc (by simp) _
  refine ⟨_, GoesD n0 W ⟨nm, pa, lo, oa, cap, g⟩ x W.heap.size (W.heap.size + 1), rfl, hbel, goes_giv n0 W ⟨nm, pa, lo, oa, cap, g⟩ hAtW x W.heap.size (W.heap.size + 1) hxg hs, ⟨h1.alloc _, h2, hbel.mono (by omega)⟩, ?_⟩
  rintro W1 W' ⟨d1, d2, d3⟩ hsm ⟨o1, o2, o3, o4⟩
  refine ⟨d1.of_heap (hsm _ (.inr ⟨by omega, by simp; omega⟩)), d2.of_heap (hsm _ (.inr ⟨by omega, by simp <;> omega⟩)), ⟨o1.trans d3.os, o2.trans d3.tape, o3.trans d3.output, Nat.le_trans d3.size o4, fun b hb => (hsm b (.inl ((hPl.out b).2 (.inl hb)))).trans (d3.block b hb)⟩⟩
end Go.Proofs.Ytfpdecjlfnambaa
