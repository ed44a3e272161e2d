/-
  Graph's laws: the document's To. Conditions: the body lies in the heap.
-/
import Derived.Test.YtfpdecjlfnambaaGLawW
namespace Go.Proofs.Ytfpdecjlfnambaa
open Go Go.RowKit

/-- Where a block goes, as ints. -/
abbrev toI (g : Gb) (i : Nat) : List Int := (tos g i).map fun (x : Nat) => (x : Int)
theorem own_irow {w : World} {base n : Nat} {v : Value} {l : List Nat} (h : w.ownsRow base 3 1 v l.length (nC l)) (hn : w.heap.size ≤ n) : IRow n w v (l.map fun (x : Nat) => (x : Int)) := by
  obtain ⟨ou, cu, rfl, h2⟩ := own_parts h
  refine ⟨ou, cu, by rw [List.length_map], fun hl => ?_⟩
  rw [List.length_map] at hl
  obtain ⟨gu, ex, rfl, hb⟩ := h2 hl
  refine ⟨gu, 0, rfl, Nat.lt_of_lt_of_le hb.lt hn, fun j hj => ?_⟩
  rw [List.length_map] at hj
  rw [Nat.zero_add, hb.cell, nC_at hj, List.getElem?_map, List.getElem?_eq_getElem hj]
  rfl

set_option maxRecDepth 100000 in
set_option maxHeartbeats 4000000 in
theorem to_any (n0 : Nat) (B : Bv) (i : Nat) (hi : i < B.g.length) (hs : B.Small) (w : World) (hB : B.At n0 w) (hn0 : n0 ≤ w.heap.size) : Calls Try.prog 23 #[B.v, .int .i64 (i : Int)] w fun e w' =>
    ∃ v base, e = .returned v ∧ Below w.heap.size w w' ∧ w.heap.size ≤ base ∧ w'.ownsRow base 3 1 v (tos B.g i).length (nC (tos B.g i)) := by
  obtain ⟨nm, pa, lo, oa, cap, g⟩ := B
  simp only at hi hs ⊢
  obtain ⟨L, hL⟩ : ∃ L, L = g.length := ⟨_, rfl⟩
  obtain ⟨T, hT⟩ : ∃ T, T = toR g i := ⟨_, rfl⟩
  obtain ⟨m, hm⟩ : ∃ m, m = T.length := ⟨_, rfl⟩
  have hs1 : L ≤ 1000 := by rw [hL]; exact hs.1
  have hs2 : m ≤ 1000 := by rw [hm, hT]; exact (hs.2 i).2
  obtain ⟨i3, hi3, hz3, hs3, hb3⟩ := info_parts infoInt
  have HI3 := Lib.hid (And.intro hi3 (And.intro hz3 (And.intro hs3 hb3)))
  have HA := Lib.hid (And.intro hB (And.intro hn0 (And.intro hL (And.intro hT hm))))
  have hiL : i < L := by rw [hL]; exact hi
  unfold Bv.v Bv.cs
  simp only [← hL]
  clear hB hs hn0 hL hT hm hi hi3 hz3 hs3 hb3
  go_enter Try.func23, Try.ntmps23
  go_upto_region 1 with fail
  obtain ⟨w1, hw1⟩ : ∃ w1, w1 = w.alloc (.cells #[nm, pa, lo, .slice oa L cap] 25) := ⟨_, rfl⟩
  obtain ⟨s, hss⟩ : ∃ s, s = w.heap.size := ⟨_, rfl⟩
  rw [← hw1, ← hss]
  have hxs : Bx w1 s 25 [nm, pa, lo, .slice oa L cap] := by
    rw [hw1, hss]
    exact Bx.new w _ [nm, pa, lo, .slice oa L cap]
  have hb1 : Below w.heap.size w w1 := by
    rw [hw1]
    exact (Below.refl _ _).alloc (Nat.le_refl _) _
  have HW := Lib.hid (And.intro hxs hb1)
  clear hxs hb1 hw1 hss
  go_wp2
  go_loopw [5, 6] (fun v u wr => ∃ k : Nat, k ≤ m ∧ u = .int .i64 k ∧ wr.ownsRow w1.heap.size 3 1 v (tv L (T.take k)).length (nC (tv L (T.take k))) ∧ Below w1.heap.size w1 wr)
    (fun _ u _ => m - (intOf u).toNat)
  case atStart => exact ⟨0, Nat.zero_le _, rfl, World.ownsRow_nil _ _ _ _, Below.refl _ _⟩
  case round =>
    obtain ⟨k, hk, rfl, hown, hbr⟩ := hrel
    have hbw := HW.out.2.trans (hbr.mono HW.out.2.size)
    have c0 := (HW.out.1.below hbr HW.out.1.lt).cell 3
    simp at c0
    obtain ⟨hB, hn0, hL, hT, hm⟩ := HA.out
    obtain ⟨bl, off, rfl, hbl, hrow⟩ := (hB.below hbw hn0) (by show 0 < g.length; omega)
    obtain ⟨-, vt, c1, hir⟩ := hrow i (by show i < g.length; omega)
    rw [← hT] at hir
    obtain ⟨ot, ct, rfl, hints⟩ := hir
    rw [← hm] at c1 hints
    by_cases hlt : k < m
    · obtain ⟨bt, ft, rfl, hbt, hc⟩ := hints (by omega)
      have c2 := hc k hlt
      obtain ⟨x, hx⟩ : ∃ x, x = T[k]?.getD 0 := ⟨_, rfl⟩
      rw [← hx] at c2
      have hll : (tv L (T.take k)).length ≤ k := by
        have h1 := List.length_filterMap_le (fun t => if isPl t L then some t.toNat else none) (T.take k)
        rw [List.length_take] at h1
        unfold tv
        omega
      have HR := Lib.hid (And.intro hown (And.intro hbr (And.intro hx (And.intro hm hll))))
      clear hown hbr hbw hB hn0 hL hT hm hbl hrow hints hbt hc hx hll
      by_cases h1 : 0 ≤ x
      · by_cases h2 : x < L
        · obtain ⟨y, rfl⟩ : ∃ y : Nat, x = y := ⟨x.toNat, by omega⟩
          go_wp2_with (at_builtin; refine wpList_append_own_at _ rfl (.tmp 39) (.tmp 41) 42 rfl w1.heap.size 3 i3 _ 1 8 Try.underlying42 HI3.out.1 HI3.out.2.1 HI3.out.2.2.1 HI3.out.2.2.2 rfl (by decide) _ _ _ rfl (HR.out.1.alloc _) ⟨_, 0, none⟩ 1 1 [.int .i64 (y : Int)] rfl rfl ?c1 ?c2 ?c3 ?c4 ?c5 ?_)
          case c1 => exact new_cells _ [.int .i64 (y : Int)] _
          case c2 => intro u hu; simp at hu; subst hu; rfl
          case c3 => have := HR.out.2.2.2.2; unfold maxLen; omega
          case c4 => have := HR.out.2.2.2.2; omega
          case c5 => have := HR.out.2.1.size; simp; omega
          intro v' w5 hown hg _ _
          have HP := Lib.hid (And.intro hown hg)
          clear hown hg
          go_wp2
          go_roundw
          case rel =>
            obtain ⟨hown, hg⟩ := HP.out
            obtain ⟨ho, hbr, hx, hm, -⟩ := HR.out
            refine ⟨k + 1, hlt, nxt _, ?_, (hbr.alloc hbr.size _).grown hg (by have := hbr.size; simp; omega) (fun q hq => (own_lt ho hq).2)⟩
            have e : tv L (T.take (k + 1)) = tv L (T.take k) ++ [y] := by
              have e0 : T[k]'(by omega) = (y : Int) := by
                rw [List.getElem?_eq_getElem (show k < T.length by omega)] at hx
                exact hx.symm
              rw [tv_snoc L T k (by omega), e0, if_pos (by simp [isPl]; omega)]
              simp
            rw [e, List.length_append, nC, List.map_append]
            exact hown
          case measure => exact meas hlt
        · go_wp2
          go_roundw
          case rel =>
            obtain ⟨ho, hbr, hx, hm, -⟩ := HR.out
            refine ⟨k + 1, hlt, nxt _, ?_, hbr⟩
            have e : tv L (T.take (k + 1)) = tv L (T.take k) := by
              have e0 : T[k]'(by omega) = x := by
                rw [List.getElem?_eq_getElem (show k < T.length by omega)] at hx
                exact hx.symm
              rw [tv_snoc L T k (by omega), e0, if_neg (by simp [isPl]; omega), List.append_nil]
            rw [e]
            exact ho
          case measure => exact meas hlt
      · go_wp2
        go_roundw
        case rel =>
          obtain ⟨ho, hbr, hx, hm, -⟩ := HR.out
          refine ⟨k + 1, hlt, nxt _, ?_, hbr⟩
          have e : tv L (T.take (k + 1)) = tv L (T.take k) := by
            have e0 : T[k]'(by omega) = x := by
              rw [List.getElem?_eq_getElem (show k < T.length by omega)] at hx
              exact hx.symm
            rw [tv_snoc L T k (by omega), e0, if_neg (by simp [isPl]; omega), List.append_nil]
          rw [e]
          exact ho
        case measure => exact meas hlt
    · obtain rfl : k = m := last hk hlt
      have HR := Lib.hid (And.intro hown (And.intro hbr (And.intro hbw hm)))
      clear hown hbr hbw hB hn0 hL hT hm hbl hrow hints
      go_wp2
      go_ret
      obtain ⟨ho, hbr, hbw, hm⟩ := HR.out
      obtain ⟨hB, hn0, hL, hT, hm⟩ := HA.out
      refine ⟨_, w1.heap.size, rfl, hbw, HW.out.2.size, ?_⟩
      rw [show T.take k = T from by rw [hm, List.take_length]] at ho
      rw [tos, ← hL, ← hT]
      exact ho
end Go.Proofs.Ytfpdecjlfnambaa
