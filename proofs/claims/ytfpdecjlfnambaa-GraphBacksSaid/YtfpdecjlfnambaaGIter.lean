/-
  Graph: what hands over one by one: goes, each, along, slices.Values of ints. Conditions: what they read lies in boxes, and stays there.
-/
import Derived.Test.YtfpdecjlfnambaaGModel
namespace Go.Proofs.Ytfpdecjlfnambaa
open Go Go.RowKit Go.Shelf

attribute [local go_sem] Oper.semAt_some

/-- What goes reads lies as it lay. -/
def GoesD (n0 : Nat) (W0 : World) (B : Bv) (i bB bI : Nat) (w : World) : Prop := Bx w bB 25 B.cs ∧ Bx w bI 3 [.int .i64 (i : Int)] ∧ Below n0 W0 w

set_option maxRecDepth 100000 in
set_option maxHeartbeats 4000000 in
theorem goes_giv (n0 : Nat) (W0 : World) (B : Bv) (hB : B.At n0 W0) (i bB bI : Nat) (hi : i < B.g.length) (hs : B.Small) : Giv Try.prog 49 #[.pointer (some ⟨bB, 0, none⟩), .pointer (some ⟨bI, 0, none⟩)] (fun (x : Nat) => #[Value.int .i64 (x : Int)]) (GoesD n0 W0 B i bB bI) (tos B.g i) := by
  intro l J W hJD hY h0
  obtain ⟨nm, pa, lo, oa, cap, g⟩ := B
  obtain ⟨hb1, hb2, hb3⟩ := hJD 0 W h0
  obtain ⟨bl, off, rfl, hbl, hrow⟩ := hB (by show 0 < g.length; simp at hi; omega)
  simp only at hi hrow hb1 hb2
  obtain ⟨-, vt, c2, oa2, cap2, rfl, hints⟩ := hrow i hi
  obtain ⟨L, hL⟩ : ∃ L, L = g.length := ⟨_, rfl⟩
  obtain ⟨T, hT⟩ : ∃ T, T = toR g i := ⟨_, rfl⟩
  obtain ⟨m, hm⟩ : ∃ m, m = T.length := ⟨_, rfl⟩
  have hs1 : L ≤ 1000 := by rw [hL]; exact hs.1
  have hs2 : m ≤ 1000 := by rw [hm, hT]; exact (hs.2 i).2
  have c1' := hb1.cell 3
  have c2' := hb2.cell 0
  simp at c1' c2'
  have c3' := (hb3.cell (p := ⟨bl, off + i * 17 + 16, none⟩) hbl).trans c2
  have hJ0 : J (tv L (T.take 0)).length W := by simpa [tv] using h0
  rw [← hT] at c3' hints
  rw [← hm] at c3' hints
  rw [← hL] at c1' hi
  have HT := Lib.hid (And.intro hL (And.intro hT hm))
  have HY := Lib.hid hY
  have HJ := Lib.hid hJD
  have HI := Lib.hid hints
  clear hb1 hb2 hb3 hs hrow h0 hL hT hm hY hJD hints c2 hB
  refine callsIn_of_wp Try.func49 rfl trivial ?_
  simp only [Try.ntmps49, List.size_toArray, List.length_cons, List.length_nil, Nat.reduceAdd, Nat.reduceSub, Array.replicate_succ, Array.replicate_zero, List.push_toArray, List.append_toArray, List.nil_append, List.cons_append]
  gi_wp2
  have hfn : ∀ f, Fence.wide.fn f = True := fun _ => rfl
  have hdp : Fence.wide.depth = none := rfl
  gi_loopw [14] (fun i wr => ∃ k : Nat, k ≤ m ∧ i = .int .i64 k ∧ J (tv L (T.take k)).length wr)
    (fun i _ => m - (intOf i).toNat)
  case atStart => exact ⟨0, Nat.zero_le _, rfl, hJ0⟩
  case round =>
    clear hJ0
    obtain ⟨k, hk, rfl, hJk⟩ := hrel
    obtain ⟨d1, d2, d3⟩ := HJ.out _ _ hJk
    have e1 := d1.cell 3
    have e2 := d2.cell 0
    simp at e1 e2
    rw [← HT.out.1] at e1
    by_cases hlt : k < m
    · obtain ⟨b2, off2, rfl, hb2, hc2⟩ := HI.out (by omega)
      have e3 := (d3.cell (p := ⟨b2, off2 + k, none⟩) hb2).trans (hc2 k hlt)
      obtain ⟨x, hx⟩ : ∃ x, x = T[k]?.getD 0 := ⟨_, rfl⟩
      rw [← hx] at e3
      have HX := Lib.hid (And.intro hx hc2)
      clear d1 d2 d3 hx hc2
      cases hp : isPl x L with
      | true =>
        have hat : ∃ hk : (tv L (T.take k)).length < (tos g i).length, (tos g i)[(tv L (T.take k)).length] = x.toNat := by
          obtain ⟨q1, q2, q3⟩ := HT.out
          have q4 := HX.out.1
          subst q1 q2 q3 q4
          exact tv_at _ _ k hlt hp
        obtain ⟨hk1, hk2⟩ := hat
        obtain ⟨fn, tmps, assign, body, hy, hR⟩ := HY.out _ hk1 wr hJk
        have hxx : ((x.toNat : Nat) : Int) = x := by
          simp [isPl] at hp
          omega
        rw [hk2, hxx] at hy
        have HR := Lib.hid hR
        clear hR hk2 hxx hJk
        gi_wp2_with ((try refine ⟨trivial, rfl, ?_⟩); gi_at_call 50; refine (callsIn_wide.2 (isPlace_any _ _ _)).mono ?_; rintro e w' ⟨rfl, rfl⟩)
        refine HR.out.mono ?_
        rintro e W3 ⟨rfl, hJ3⟩
        have HP := Lib.hid hp
        clear HR hp hy
        skip
        gi_wp2
        go_roundw
        case rel =>
          refine ⟨k + 1, by omega, by simp, ?_⟩
          obtain ⟨q1, q2, q3⟩ := HT.out
          have q4 := HX.out.1
          rw [tv_next L T k (by omega), ← q4, if_pos HP.out]
          exact hJ3
        case measure => simp [intOf]; omega
      | false =>
        gi_wp2_with ((try refine ⟨trivial, rfl, ?_⟩); gi_at_call 50; refine (callsIn_wide.2 (isPlace_any _ _ _)).mono ?_; rintro e w' ⟨rfl, rfl⟩)
        go_roundw
        case rel =>
          refine ⟨k + 1, by omega, by simp, ?_⟩
          obtain ⟨q1, q2, q3⟩ := HT.out
          have q4 := HX.out.1
          rw [tv_next L T k (by omega), ← q4, if_neg (by simp [hp])]
          exact hJk
        case measure => simp [intOf]; omega
    · obtain rfl : k = m := by omega
      gi_wp2
      go_end0
      refine ⟨⟨_, rfl⟩, ?_⟩
      obtain ⟨q1, q2, q3⟩ := HT.out
      have q5 : T.take k = T := by rw [q3, List.take_length]
      rw [q5] at hJk
      rw [tos, ← q1, ← q2]
      exact hJk

end Go.Proofs.Ytfpdecjlfnambaa
