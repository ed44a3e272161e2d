/-
  Graph: where Back's spread goes: the rows that Preds told. Conditions: they lie in the heap.
-/
import Derived.Test.YtfpdecjlfnambaaGSpreadP
namespace Go.Proofs.Ytfpdecjlfnambaa
open Go Go.RowKit Go.Shelf

set_option maxRecDepth 100000 in
set_option maxHeartbeats 4000000 in
theorem next_back (E : SE) (fb pr L : Nat) (vs : List Value) (hfb : Bx E.w0 fb 39 [.slice (some ⟨pr, 0, none⟩) L L]) (hpr : Bx E.w0 pr 42 vs) (hL : L = E.c.length) (hL1 : L ≤ 1000)
    (hrow : ∀ x, x < L → ∃ v, vs[x]? = some v ∧ NRow E.w0 v (E.next x) ∧ ∀ b n c, v = .slice (some ⟨b, 0, none⟩) n c → E.P0 b) (hPf : E.P0 fb) (hPp : E.P0 pr) (hlen : ∀ x, (E.next x).length ≤ 1000) :
    NextOk E 37 55 (.pointer (some ⟨fb, 0, none⟩)) := by
  intro x hx W hW hsame
  have hxL : x < L := by rw [hL]; exact (ones_lt hx).1
  obtain ⟨v, hv, hnr, hP⟩ := hrow x hxL
  have hf := hfb.of_heap (hsame fb hPf)
  have hp := hpr.of_heap (hsame pr hPp)
  have c1 := hf.cell 0
  have c2 := hp.cell x
  rw [hv] at c2
  simp at c1
  have hl := hlen x
  obtain ⟨l, hll⟩ : ∃ l, l = E.next x := ⟨_, rfl⟩
  rw [← hll] at hnr hl ⊢
  have HP := Lib.hid hP
  have HS := Lib.hid hsame
  clear hf hp hrow hP hfb hpr hv hll hlen hsame
  rcases hnr with ⟨rfl, rfl⟩ | ⟨b, cap, ex, rfl, hb⟩
  · have HG := Lib.hid (values_any none 0 0 W)
    clear hl
    go_enter Try.func37, Try.ntmps37
    go_wp2_with (go_at_call 38; refine HG.out.mono ?_; rintro e w' ⟨rfl, rfl⟩)
    go_ret
    have h1 := Bx.new W 42 [.slice none 0 0]
    refine ⟨_, (fun w => Bx w W.heap.size 42 [.slice none 0 0]), rfl, (Below.refl _ _).alloc (Nat.le_refl _) _, vals_nil W.heap.size, h1, ?_⟩
    intro W1 W' d1 hsm _
    exact d1.of_heap (hsm _ (.inr ⟨by omega, by simp⟩))
  · obtain ⟨k, hk⟩ : ∃ k, k = l.length := ⟨_, rfl⟩
    rw [← hk] at c2
    have HK := Lib.hid hk
    have HB := Lib.hid (And.intro hb hl)
    have HG := Lib.hid (values_any (some ⟨b, 0, none⟩) k cap W)
    clear hb hl hk
    go_enter Try.func37, Try.ntmps37
    go_wp2_with (go_at_call 38; refine HG.out.mono ?_; rintro e w' ⟨rfl, rfl⟩)
    go_ret
    obtain ⟨hb, hl⟩ := HB.out
    have hk := HK.out
    subst hk
    have h1 := Bx.new W 42 [.slice (some ⟨b, 0, none⟩) l.length cap]
    have hPb := HP.out b l.length cap rfl
    have hbW : Bx W b 3 (nC l ++ ex) := hb.of_heap (HS.out b hPb)
    refine ⟨_, ValsD2 W.heap.size b cap l ex, rfl, (Below.refl _ _).alloc (Nat.le_refl _) _, vals_giv W.heap.size b cap l ex hl, ⟨h1, hbW.alloc _⟩, ?_⟩
    rintro W1 W' ⟨d1, d2⟩ hsm _
    exact ⟨d1.of_heap (hsm _ (.inr ⟨by omega, by simp⟩)), d2.of_heap (hsm _ (.inl hPb))⟩
end Go.Proofs.Ytfpdecjlfnambaa
