/-
  Several texts of the proof in one: KLook, KLay, KFrame. No conditions of their own: each lemma states its own.
-/
import Derived.Test.YtgpkhdccchpljaaDoorKJNum
namespace Go.Proofs.YtgpkhdccchpljaaDoor
open Go.RowKit
open M (Wd MS loadR)

/-- a coroutine's value, with whatever name -/
def crV (s : ByteArray) (c : C.Cr) : Value := .agg #[.string s, .int .i64 c.re, .int .i64 c.ca, .int .i64 c.wo, .int .i64 c.ar]

theorem cells5 {w : World} {k : Nat} {v0 v1 v2 v3 v4 : Value} {t : TypeId} (h : w.heap[k]? = some (.cells #[v0, v1, v2, v3, v4] t)) :
    w.cell? ⟨k, 0, none⟩ = some v0 ∧ w.cell? ⟨k, 1, none⟩ = some v1 ∧ w.cell? ⟨k, 2, none⟩ = some v2 ∧ w.cell? ⟨k, 3, none⟩ = some v3 ∧ w.cell? ⟨k, 4, none⟩ = some v4 ∧ (∀ j, w.frozen? ⟨k, j, none⟩ = false) ∧ k < w.heap.size := by
  have hl := (Array.getElem?_eq_some_iff.1 h).1
  exact ⟨by simp [World.cell?, h], by simp [World.cell?, h], by simp [World.cell?, h], by simp [World.cell?, h], by simp [World.cell?, h], fun j => by simp [World.frozen?, h], hl⟩
theorem set5 {w : World} {k : Nat} {v0 v1 v2 v3 v4 u0 u1 u2 u3 u4 : Value} {t : TypeId} (h : w.heap[k]? = some (.cells #[v0, v1, v2, v3, v4] t)) :
    (((((w.setCell ⟨k, 0, none⟩ u0).setCell ⟨k, 1, none⟩ u1).setCell ⟨k, 2, none⟩ u2).setCell ⟨k, 3, none⟩ u3).setCell ⟨k, 4, none⟩ u4).heap[k]? = some (.cells #[u0, u1, u2, u3, u4] t) := by
  have h1 := heap_setCell_same w k 0 _ t u0 h
  have h2 := heap_setCell_same _ k 1 _ t u1 h1
  have h3 := heap_setCell_same _ k 2 _ t u2 h2
  have h4 := heap_setCell_same _ k 3 _ t u3 h3
  have h5 := heap_setCell_same _ k 4 _ t u4 h4
  simpa using h5
theorem set5_below {B k : Nat} {w0 w : World} {u0 u1 u2 u3 u4 : Value} (h : Below B w0 w) (hk : B ≤ k) : Below B w0 (((((w.setCell ⟨k, 0, none⟩ u0).setCell ⟨k, 1, none⟩ u1).setCell ⟨k, 2, none⟩ u2).setCell ⟨k, 3, none⟩ u3).setCell ⟨k, 4, none⟩ u4) :=
  ((((h.setCell hk _).setCell hk _).setCell hk _).setCell hk _).setCell hk _
theorem numR_cases (S : MS) (x : Wd) (k : Int) : ∃ n e, numR S x k = (n, e) := ⟨_, _, rfl⟩

set_option maxRecDepth 100000 in
set_option maxHeartbeats 8000000 in
theorem look_any {w : World} {mb mk : Nat} {lm : Option Nat} {loc : Nat → Nat} {S : MS} {p : C.Pg} {oac : Option Addr} {capc : Nat} (R : M.RepAt w mb lm loc S) (hm : w.cell? ⟨mk, 2, none⟩ = some (.pointer (some ⟨mb, 0, none⟩)))
    (hc : w.cell? ⟨mk, 1, none⟩ = some (.slice oac p.cs.length capc)) (hC : C.CosV w (.slice oac p.cs.length capc) p.cs) (x : Wd) :
    Calls Tryd.prog 42 #[.pointer (some ⟨mk, 0, none⟩), .agg #[.bool x.p, .int .i64 x.a, .int .i64 x.n]] w fun e w' => (∃ s, e = .returned (.tuple #[.int .i64 (lookR p S x).1, crV s (lookR p S x).2.1, .int .i64 (lookR p S x).2.2])) ∧ Below w.heap.size w w' := by
  have hmk := World.block_lt_of_cell? w _ hm
  have hM := Lib.hid (show ∀ w', Below w.heap.size w w' → w'.cell? ⟨mk, 2, none⟩ = some (.pointer (some ⟨mb, 0, none⟩)) ∧ w'.cell? ⟨mk, 1, none⟩ = some (.slice oac p.cs.length capc) ∧ mk < w'.heap.size ∧ M.RepAt w' mb lm loc S from fun w' h => ⟨(h.cell (p := ⟨mk, 2, none⟩) hmk).trans hm, (h.cell (p := ⟨mk, 1, none⟩) hmk).trans hc, Nat.lt_of_lt_of_le hmk h.size, R.below h⟩)
  obtain ⟨W, hW⟩ : ∃ W, W = (w.alloc (.cells #[.bool x.p, .int .i64 x.a, .int .i64 x.n] 38)).alloc (.cells #[.string ⟨#[]⟩, .int .i64 0, .int .i64 0, .int .i64 0, .int .i64 0] 66) := ⟨_, rfl⟩
  have hbW : Below w.heap.size w W := by rw [hW]; exact (C.alloc_below _ _).alloc (by simp) _
  have hx0 : W.heap[w.heap.size]? = some (.cells #[.bool x.p, .int .i64 x.a, .int .i64 x.n] 38) := by rw [hW, Below.heap_alloc _ _ _ (by simp), heap_alloc_new]
  have hr0 : W.heap[w.heap.size + 1]? = some (.cells #[.string ⟨#[]⟩, .int .i64 0, .int .i64 0, .int .i64 0, .int .i64 0] 66) := by
    have := heap_alloc_new (w.alloc (.cells #[.bool x.p, .int .i64 x.a, .int .i64 x.n] 38)) (.cells #[.string ⟨#[]⟩, .int .i64 0, .int .i64 0, .int .i64 0, .int .i64 0] 66)
    rw [hW]; simpa using this
  go_enter Tryd.func42, Tryd.ntmps42
  go_upto_region 1 with fail
  rw [← hW]
  clear hW
  have hkc := Lib.hid (show ∀ w', Below W.heap.size W w' → Below w.heap.size w w' ∧ w'.heap[w.heap.size]? = some (.cells #[.bool x.p, .int .i64 x.a, .int .i64 x.n] 38) ∧ w'.heap[w.heap.size + 1]? = some (.cells #[.string ⟨#[]⟩, .int .i64 0, .int .i64 0, .int .i64 0, .int .i64 0] 66) from fun w' h =>
    ⟨hbW.trans (h.mono hbW.size), (h.block _ (Array.getElem?_eq_some_iff.1 hx0).1).trans hx0, (h.block _ (Array.getElem?_eq_some_iff.1 hr0).1).trans hr0⟩)
  obtain ⟨b0, b1, b2, bf, bl⟩ := cells3 hx0
  obtain ⟨r0, r1, r2, r3, r4, rf, rl⟩ := cells5 hr0
  obtain ⟨m0, m1, ml, hR⟩ := hM.out W hbW
  obtain ⟨n1, e1, h1⟩ := numR_cases S x 0
  have hn1 := number_any hR m0 x 0
  rw [h1] at hn1
  replace hn1 := Lib.hid hn1
  have H1 := Lib.hid h1
  have HC := Lib.hid hC
  clear hx0 hr0 hbW R hm hc hmk hR h1 hC
  obtain ⟨B, hB⟩ : ∃ B, B = w.heap.size := ⟨_, rfl⟩
  rw [← hB] at b0 b1 b2 bl r0 r1 r2 r3 r4 rl hkc
  simp only [← hB] at bf rf ⊢
  replace hB := Lib.hid hB
  go_wp2_with fail
  refine hn1.out.mono ?_
  clear hn1
  rintro e w1 ⟨rfl, hb1⟩
  have B1 := Lib.hid (show Below W.heap.size W w1 from hb1)
  clear hb1 b0 b1 b2 bf bl r0 r1 r2 r3 r4 rf rl m0 m1 ml
  obtain ⟨hw1, hx1, hr1⟩ := hkc.out w1 B1.out
  obtain ⟨b0, b1, b2, bf, bl⟩ := cells3 hx1
  obtain ⟨r0, r1, r2, r3, r4, rf, rl⟩ := cells5 hr1
  obtain ⟨m0, m1, ml, hR⟩ := hM.out w1 (by rw [← hB.out]; exact hw1)
  have hw1' := Lib.hid hw1
  have HR1 := Lib.hid hr1
  clear hx1 hr1 hw1
  by_cases he1 : e1 = 0
  · have t0 : (e1 != 0) = false := by simp [he1]
    obtain ⟨n2, e2, h2⟩ := numR_cases S x 2
    have hn2 := number_any hR m0 x 2
    rw [h2] at hn2
    replace hn2 := Lib.hid hn2
    have H2 := Lib.hid h2
    have HE1 := Lib.hid he1
    clear hR h2 he1
    go_wp2_with fail
    refine hn2.out.mono ?_
    clear hn2
    rintro e w2 ⟨rfl, hb2⟩
    have B2 := Lib.hid (show Below W.heap.size W w2 from B1.out.trans (hb2.mono B1.out.size))
    clear hb2 b0 b1 b2 bf bl r0 r1 r2 r3 r4 rf rl m0 m1 ml
    obtain ⟨hw2, hx2, hr2⟩ := hkc.out w2 B2.out
    obtain ⟨r0, r1, r2, r3, r4, rf, rl⟩ := cells5 hr2
    obtain ⟨m0, m1, ml, hR⟩ := hM.out w2 (by rw [← hB.out]; exact hw2)
    have hw2' := Lib.hid hw2
    have HR2 := Lib.hid hr2
    clear hx2 hw2
    by_cases he2 : e2 = 0
    · have t1 : (e2 != 0) = false := by simp [he2]
      have HE2 := Lib.hid he2
      have hh := has_any m1 n2
      replace hh := Lib.hid hh
      clear hR he2
      go_wp2_with fail
      refine hh.out.mono ?_
      clear hh
      rintro e w3 ⟨rfl, rfl⟩
      cases hb : hasB p n2 with
      | false =>
        have hs := Lib.hid (show lookR p S x = (0, noCr, 30) by
          rw [lookR, H1.out, H2.out, if_neg (by simp [HE1.out]), if_neg (by simp [HE2.out]), if_pos hb])
        clear hb
        have hfz := set5 (u0 := .string ⟨#[]⟩) (u1 := .int .i64 0) (u2 := .int .i64 0) (u3 := .int .i64 0) (u4 := .int .i64 0) HR2.out
        have hbz := Lib.hid (set5_below (u0 := .string ⟨#[]⟩) (u1 := .int .i64 0) (u2 := .int .i64 0) (u3 := .int .i64 0) (u4 := .int .i64 0) (k := B + 1) hw2'.out (by have := hB.out; omega))
        go_wp2
        generalize (((((w3.setCell ⟨B + 1, 0, none⟩ (.string ⟨#[]⟩)).setCell ⟨B + 1, 1, none⟩ (.int .i64 0)).setCell ⟨B + 1, 2, none⟩ (.int .i64 0)).setCell ⟨B + 1, 3, none⟩ (.int .i64 0)).setCell ⟨B + 1, 4, none⟩ (.int .i64 0)) = WW at hfz hbz ⊢
        obtain ⟨y0, y1, y2, y3, y4, yf, yl⟩ := cells5 hfz
        refine bodyPost_ret (v := .tuple #[.int .i64 0, .agg #[.string ⟨#[]⟩, .int .i64 0, .int .i64 0, .int .i64 0, .int .i64 0], .int .i64 30]) (by simp [results, Tryd.results42, go_sem, y0, y1, y2, y3, y4]) rfl ⟨⟨⟨#[]⟩, by rw [hs.out]; rfl⟩, by rw [← hB.out]; exact hbz.out⟩
      | true =>
        have hs := Lib.hid (show lookR p S x = (n1, coOf p n2, 0) by
          rw [lookR, H1.out, H2.out, if_neg (by simp [HE1.out]), if_neg (by simp [HE2.out]), if_neg (by simp [hb])])
        have h01 : 0 ≤ n2 ∧ n2 < p.cs.length := by simpa [hasB] using hb
        clear hb
        obtain ⟨m, rfl⟩ : ∃ m : Nat, n2 = m := ⟨n2.toNat, by omega⟩
        obtain ⟨c, hc⟩ : ∃ c, p.cs[m]? = some c := ⟨_, List.getElem?_eq_getElem (show m < p.cs.length by omega)⟩
        have hco : coOf p m = c := by simp [coOf, hc]
        obtain ⟨oa', cap', b, off, he, g1, g2, g3, g4⟩ := HC.out
        cases he
        obtain ⟨rfl, gb⟩ := g3 (by omega)
        obtain ⟨s, k0, k1, k2, k3, k4⟩ := g4 m c hc
        have hlm : m < p.cs.length := by omega
        have hb2 : Below w.heap.size w w3 := by rw [← hB.out]; exact hw2'.out
        rw [← hb2.cell gb] at k0 k1 k2 k3 k4
        have hfz := set5 (u0 := .string s) (u1 := .int .i64 c.re) (u2 := .int .i64 c.ca) (u3 := .int .i64 c.wo) (u4 := .int .i64 c.ar) HR2.out
        have hbz := Lib.hid (set5_below (u0 := .string s) (u1 := .int .i64 c.re) (u2 := .int .i64 c.ca) (u3 := .int .i64 c.wo) (u4 := .int .i64 c.ar) (k := B + 1) hw2'.out (by have := hB.out; omega))
        rw [hco] at hs
        have hFZ := Lib.hid hfz
        clear g4 g3 hc hco h01 hb2 H1 H2 hfz hr2
        go_wp2_with fail
        go_region
        have hfz := hFZ.out
        clear hFZ
        go_wp2
        generalize (((((w3.setCell ⟨B + 1, 0, none⟩ (.string s)).setCell ⟨B + 1, 1, none⟩ (.int .i64 c.re)).setCell ⟨B + 1, 2, none⟩ (.int .i64 c.ca)).setCell ⟨B + 1, 3, none⟩ (.int .i64 c.wo)).setCell ⟨B + 1, 4, none⟩ (.int .i64 c.ar)) = WW at hfz hbz ⊢
        obtain ⟨y0, y1, y2, y3, y4, yf, yl⟩ := cells5 hfz
        refine bodyPost_ret (v := .tuple #[.int .i64 n1, .agg #[.string s, .int .i64 c.re, .int .i64 c.ca, .int .i64 c.wo, .int .i64 c.ar], .int .i64 0]) (by simp [results, Tryd.results42, go_sem, y0, y1, y2, y3, y4]) rfl ⟨⟨s, by rw [hs.out]; rfl⟩, by rw [← hB.out]; exact hbz.out.drew⟩
    · have t1 : (e2 != 0) = true := by simp [he2]
      have hs := Lib.hid (show lookR p S x = (0, noCr, e2) by rw [lookR, H1.out, H2.out, if_neg (by simp [HE1.out]), if_pos he2])
      clear he2 hR
      have hfz := set5 (u0 := .string ⟨#[]⟩) (u1 := .int .i64 0) (u2 := .int .i64 0) (u3 := .int .i64 0) (u4 := .int .i64 0) HR2.out
      have hbz := Lib.hid (set5_below (u0 := .string ⟨#[]⟩) (u1 := .int .i64 0) (u2 := .int .i64 0) (u3 := .int .i64 0) (u4 := .int .i64 0) (k := B + 1) hw2'.out (by have := hB.out; omega))
      go_wp2
      generalize (((((w2.setCell ⟨B + 1, 0, none⟩ (.string ⟨#[]⟩)).setCell ⟨B + 1, 1, none⟩ (.int .i64 0)).setCell ⟨B + 1, 2, none⟩ (.int .i64 0)).setCell ⟨B + 1, 3, none⟩ (.int .i64 0)).setCell ⟨B + 1, 4, none⟩ (.int .i64 0)) = WW at hfz hbz ⊢
      obtain ⟨y0, y1, y2, y3, y4, yf, yl⟩ := cells5 hfz
      refine bodyPost_ret (v := .tuple #[.int .i64 0, .agg #[.string ⟨#[]⟩, .int .i64 0, .int .i64 0, .int .i64 0, .int .i64 0], .int .i64 e2]) (by simp [results, Tryd.results42, go_sem, y0, y1, y2, y3, y4]) rfl ⟨⟨⟨#[]⟩, by rw [hs.out]; rfl⟩, by rw [← hB.out]; exact hbz.out⟩
  · have t0 : (e1 != 0) = true := by simp [he1]
    have hs := Lib.hid (show lookR p S x = (0, noCr, e1) by rw [lookR, H1.out, if_pos he1])
    clear he1 hR
    have hfz := set5 (u0 := .string ⟨#[]⟩) (u1 := .int .i64 0) (u2 := .int .i64 0) (u3 := .int .i64 0) (u4 := .int .i64 0) HR1.out
    have hbz := Lib.hid (set5_below (u0 := .string ⟨#[]⟩) (u1 := .int .i64 0) (u2 := .int .i64 0) (u3 := .int .i64 0) (u4 := .int .i64 0) (k := B + 1) hw1'.out (by have := hB.out; omega))
    go_wp2
    generalize (((((w1.setCell ⟨B + 1, 0, none⟩ (.string ⟨#[]⟩)).setCell ⟨B + 1, 1, none⟩ (.int .i64 0)).setCell ⟨B + 1, 2, none⟩ (.int .i64 0)).setCell ⟨B + 1, 3, none⟩ (.int .i64 0)).setCell ⟨B + 1, 4, none⟩ (.int .i64 0)) = WW at hfz hbz ⊢
    obtain ⟨y0, y1, y2, y3, y4, yf, yl⟩ := cells5 hfz
    refine bodyPost_ret (v := .tuple #[.int .i64 0, .agg #[.string ⟨#[]⟩, .int .i64 0, .int .i64 0, .int .i64 0, .int .i64 0], .int .i64 e1]) (by simp [results, Tryd.results42, go_sem, y0, y1, y2, y3, y4]) rfl ⟨⟨⟨#[]⟩, by rw [hs.out]; rfl⟩, by rw [← hB.out]; exact hbz.out⟩
end Go.Proofs.YtgpkhdccchpljaaDoor

namespace Go.Proofs.YtgpkhdccchpljaaDoor
open Go.RowKit
open M (Wd MS loadR storeR allocR RepAt Owned Turned Kept)

/-- what a call leaves that begins above a world of the same blocks -/
theorem turned_below {w w1 w' : World} {mb : Nat} {lm : Option Nat} {loc : Nat → Nat} {S S' : MS} (h : Turned w1 w' mb lm loc S S') (hb : Below w.heap.size w w1) : Turned w w' mb lm loc S S' := by
  obtain ⟨lm', loc', R', ho, hk⟩ := h
  refine ⟨lm', loc', R', fun b h => ?_, hk.os.trans hb.os, hk.tape.trans hb.tape, hk.output.trans hb.output, Nat.le_trans hb.size hk.size, fun b hl hn => (hk.block b (Nat.lt_of_lt_of_le hl hb.size) hn).trans (hb.block b hl)⟩
  rcases ho b h with h1 | h1
  · exact .inl h1
  · exact .inr (Nat.le_trans hb.size h1)
theorem turned_trans {w w1 w2 : World} {mb : Nat} {lm lm1 : Option Nat} {loc loc1 : Nat → Nat} {S S1 S2 : MS} (hs : w.heap.size ≤ w1.heap.size) (ho : ∀ b, Owned mb lm1 loc1 S1 b → Owned mb lm loc S b ∨ w.heap.size ≤ b) (hk : Kept (Owned mb lm loc S) w w1) (h : Turned w1 w2 mb lm1 loc1 S1 S2) : Turned w w2 mb lm loc S S2 := by
  obtain ⟨lm', loc', R', ho', hk'⟩ := h
  refine ⟨lm', loc', R', fun b h => ?_, hk'.os.trans hk.os, hk'.tape.trans hk.tape, hk'.output.trans hk.output, Nat.le_trans hs hk'.size, fun b hl hn => ?_⟩
  · rcases ho' b h with h1 | h1
    · exact ho b h1
    · exact .inr (Nat.le_trans hs h1)
  · refine (hk'.block b (Nat.lt_of_lt_of_le hl hs) fun h => ?_).trans (hk.block b hl hn)
    rcases ho b h with h1 | h1
    · exact hn h1
    · omega
theorem turned_drew {w w' : World} {mb : Nat} {lm : Option Nat} {loc : Nat → Nat} {S S' : MS} (h : Turned w.drew w' mb lm loc S S') : Turned w w' mb lm loc S S' := by
  obtain ⟨lm', loc', R', ho, hk⟩ := h
  exact ⟨lm', loc', R', ho, hk.os, hk.tape, hk.output, hk.size, hk.block⟩

set_option maxRecDepth 100000 in
set_option maxHeartbeats 1000000 in
theorem lay_any {w : World} {mb mk : Nat} {lm : Option Nat} {loc : Nat → Nat} {S : MS} (R : RepAt w mb lm loc S) (hm : w.cell? ⟨mk, 2, none⟩ = some (.pointer (some ⟨mb, 0, none⟩))) (x : Wd) (k n : Int) :
    Calls Tryd.prog 39 #[.pointer (some ⟨mk, 0, none⟩), .agg #[.bool x.p, .int .i64 x.a, .int .i64 x.n], .int .i64 k, .int .i64 n] w fun e w' => e = .returned (.tuple #[]) ∧ Turned w w' mb lm loc S (layR S x k n) := by
  have hR := Lib.hid R
  have hmk := World.block_lt_of_cell? w _ hm
  obtain ⟨q, hq⟩ : ∃ q, q = wr (x.n + k) := ⟨_, rfl⟩
  obtain ⟨er, S', hst⟩ : ∃ er S', storeR S x.p x.a q (nm n) = (er, S') := ⟨_, _, rfl⟩
  have hqb : q ≤ 9223372036854775807 := by rw [hq]; show wrap64 _ ≤ _; unfold wrap64; omega
  have hS : layR S x k n = S' := by rw [layR, ← hq, hst]
  rw [hS]
  have HQ := Lib.hid hq
  have HST := Lib.hid hst
  clear R hS hst hq
  go_enter Tryd.func39, Tryd.ntmps39
  go_upto_region 2 with fail
  rw [show wrap64 (x.n + k) = q from HQ.out.symm]
  obtain ⟨W, hW⟩ : ∃ W, W = w.alloc (.cells #[.bool x.p, .int .i64 x.a, .int .i64 q] 38) := ⟨_, rfl⟩
  have hbW := Lib.hid (show Below w.heap.size w W by rw [hW]; exact C.alloc_below _ _)
  obtain ⟨b0, b1, b2, bf, bl⟩ := cells3 (show W.heap[w.heap.size]? = some (.cells #[.bool x.p, .int .i64 x.a, .int .i64 q] 38) by rw [hW, heap_alloc_new])
  have m0 := (hbW.out.cell (p := ⟨mk, 2, none⟩) hmk).trans hm
  have ml : mk < W.heap.size := Nat.lt_of_lt_of_le hmk hbW.out.size
  rw [← hW]
  clear hW hm hmk
  have hst := M.store_gen ((hR.out.below hbW.out).below (Below.refl W.heap.size W).drew) x.p x.a q (nm n) er S' HST.out hqb
  replace hst := Lib.hid hst
  go_region_with (go_at_call 55; refine hst.out.mono ?_; rintro e w1 ⟨rfl, hT⟩; replace hT := Lib.hid (turned_below (turned_drew hT) hbW.out))
  all_goals (go_wp2; go_returns; exact ⟨rfl, hT.out⟩)
end Go.Proofs.YtgpkhdccchpljaaDoor

namespace Go.Proofs.YtgpkhdccchpljaaDoor
open Go.RowKit
open M (Wd MS loadR storeR allocR RepAt Owned Turned Kept)

theorem not_owned38 {w : World} {mb b : Nat} {lm : Option Nat} {loc : Nat → Nat} {S : MS} (R : RepAt w mb lm loc S) {c : Array Value} (h : w.heap[b]? = some (.cells c 38)) : ¬ Owned mb lm loc S b := by
  rintro (rfl | e | ⟨k, l, hk, rfl⟩)
  · rw [R.obj] at h; simp [M.memObj] at h
  · obtain ⟨D, ⟨es, clock, hb, _⟩, _⟩ := R.map _ e
    rw [h] at hb; cases hb
  · rw [R.blk k l hk] at h; simp at h
theorem turned_kept {w w' : World} {mb b : Nat} {lm : Option Nat} {loc : Nat → Nat} {S S' : MS} (T : Turned w w' mb lm loc S S') (R : RepAt w mb lm loc S) {c : Array Value} (h : w.heap[b]? = some (.cells c 38)) : w'.heap[b]? = some (.cells c 38) := by
  obtain ⟨lm', loc', R', ho, hk⟩ := T
  exact (hk.block b (Array.getElem?_eq_some_iff.1 h).1 (not_owned38 R h)).trans h
/-- blocks that lie between a world and the beginning of a call of mem may be written -/
theorem turned_local {w w1 w2 w3 : World} {mb : Nat} {lm : Option Nat} {loc : Nat → Nat} {S S' : MS} (T : Turned w1 w2 mb lm loc S S') (hb : Below w.heap.size w w1) (R : RepAt w mb lm loc S)
    (os : w3.os = w2.os) (tape : w3.tape = w2.tape) (output : w3.output = w2.output) (size : w2.heap.size ≤ w3.heap.size)
    (h : ∀ b, b < w2.heap.size → (b < w.heap.size ∨ w1.heap.size ≤ b) → w3.heap[b]? = w2.heap[b]?) : Turned w w3 mb lm loc S S' := by
  obtain ⟨lm', loc', R', ho, hk⟩ := T
  refine ⟨lm', loc', R'.keep fun b hO => h b (R'.lt b hO) ?_, fun b hO => ?_, os.trans (hk.os.trans hb.os), tape.trans (hk.tape.trans hb.tape), output.trans (hk.output.trans hb.output), Nat.le_trans hb.size (Nat.le_trans hk.size size), fun b hl hn => ?_⟩
  · rcases ho b hO with h1 | h1
    · exact .inl (R.lt b h1)
    · exact .inr h1
  · rcases ho b hO with h1 | h1
    · exact .inl h1
    · exact .inr (Nat.le_trans hb.size h1)
  · have hl1 : b < w1.heap.size := Nat.lt_of_lt_of_le hl hb.size
    exact (h b (Nat.lt_of_lt_of_le hl1 hk.size) (.inl hl)).trans ((hk.block b hl1 hn).trans (hb.block b hl))

def wdC (x : Wd) : Obj := .cells #[.bool x.p, .int .i64 x.a, .int .i64 x.n] 38

def set3w (w : World) (k : Nat) (y : Wd) : World := ((w.setCell ⟨k, 0, none⟩ (.bool y.p)).setCell ⟨k, 1, none⟩ (.int .i64 y.a)).setCell ⟨k, 2, none⟩ (.int .i64 y.n)
theorem set3w_other {w : World} {k b : Nat} {y : Wd} (h : b ≠ k) : (set3w w k y).heap[b]? = w.heap[b]? := by
  rw [set3w, Below.heap_setCell _ _ _ _ h, Below.heap_setCell _ _ _ _ h, Below.heap_setCell _ _ _ _ h]
abbrev zC : Obj := .cells #[.bool false, .int .i64 0, .int .i64 0] 38

theorem armA {w W w3 : World} {mb B : Nat} {lm : Option Nat} {loc : Nat → Nat} {S S1 : MS} (hbW : Below w.heap.size w W) (R : RepAt w mb lm loc S) (hT : Turned (W.alloc zC).drew w3 mb lm loc S S1) (hB : W.heap[B]? = some (wdC z3)) (y : Wd) :
    Kept (Owned mb lm loc S) w w3 ∧ w3.heap[W.heap.size]? = some zC ∧ Turned w (set3w w3 W.heap.size y) mb lm loc S S1 ∧ (set3w w3 W.heap.size y).heap[W.heap.size]? = some (wdC y) ∧ (set3w w3 W.heap.size y).heap[B]? = some (wdC z3) := by
  have hb1 : Below W.heap.size W (W.alloc zC).drew := (C.alloc_below W zC).drew
  have R1 : RepAt (W.alloc zC).drew mb lm loc S := (R.below hbW).below hb1
  have h1 : w3.heap[W.heap.size]? = some zC := turned_kept hT R1 (heap_alloc_new W zC)
  have hlB := (Array.getElem?_eq_some_iff.1 hB).1
  have h2 : w3.heap[B]? = some (wdC z3) := turned_kept hT R1 ((hb1.block B hlB).trans hB)
  refine ⟨by obtain ⟨_, _, _, _, hk⟩ := turned_below hT (hbW.trans (hb1.mono hbW.size)); exact hk, h1, turned_local hT (hbW.trans (hb1.mono hbW.size)) R rfl rfl rfl (by simp [set3w, World.setCell]) fun b hl hor => set3w_other fun e => ?_, set3 h1, (set3w_other (Nat.ne_of_lt hlB)).trans h2⟩
  subst e
  have h3 := hbW.size
  have h4 : (W.alloc zC).drew.heap.size = W.heap.size + 1 := by simp [World.drew]
  omega
theorem armB {w W w3 : World} {mb B : Nat} {lm : Option Nat} {loc : Nat → Nat} {S S1 : MS} (hbW : Below w.heap.size w W) (R : RepAt w mb lm loc S) (hT : Turned W.drew w3 mb lm loc S S1) (hB : W.heap[B]? = some (wdC z3)) (y : Wd) :
    Kept (Owned mb lm loc S) w w3 ∧ Turned w (w3.alloc (wdC y)) mb lm loc S S1 ∧ (w3.alloc (wdC y)).heap[w3.heap.size]? = some (wdC y) ∧ (w3.alloc (wdC y)).heap[B]? = some (wdC z3) := by
  have hb1 : Below W.heap.size W W.drew := (Below.refl W.heap.size W).drew
  have R1 : RepAt W.drew mb lm loc S := (R.below hbW).below hb1
  have h2 : w3.heap[B]? = some (wdC z3) := turned_kept hT R1 hB
  have hb2 : Below w3.heap.size w3 (w3.alloc (wdC y)) := C.alloc_below _ _
  exact ⟨by obtain ⟨_, _, _, _, hk⟩ := turned_below hT (hbW.trans (hb1.mono hbW.size)); exact hk, turned_local hT (hbW.trans (hb1.mono hbW.size)) R rfl rfl rfl hb2.size fun b hl _ => hb2.block b hl, heap_alloc_new _ _, (hb2.block B (Array.getElem?_eq_some_iff.1 h2).1).trans h2⟩

theorem turned_set38 {w wc : World} {mb B : Nat} {lm : Option Nat} {loc : Nat → Nat} {S S1 : MS} {cs : Array Value} (T : Turned w wc mb lm loc S S1) (hB : wc.heap[B]? = some (.cells cs 38)) (hl : w.heap.size ≤ B) (y : Wd) : Turned w (set3w wc B y) mb lm loc S S1 := by
  obtain ⟨lm', loc', R', ho, hk⟩ := T
  have hno := not_owned38 R' hB
  refine ⟨lm', loc', R'.keep fun b hO => set3w_other fun e => hno (e ▸ hO), ho, hk.os, hk.tape, hk.output, Nat.le_trans hk.size (by simp [set3w, World.setCell]), fun b hb hn => (set3w_other (by omega)).trans (hk.block b hb hn)⟩
theorem lay_step {w wc : World} {mb mk B b8 : Nat} {lm : Option Nat} {loc : Nat → Nat} {S Sc : MS} {y : Wd} (T : Turned w wc mb lm loc S Sc) (h8 : wc.heap[b8]? = some (wdC y)) (hB : wc.heap[B]? = some (wdC z3))
    (hM : ∀ w', Kept (Owned mb lm loc S) w w' → w'.cell? ⟨mk, 2, none⟩ = some (.pointer (some ⟨mb, 0, none⟩))) (k n : Int) :
    Calls Tryd.prog 39 #[.pointer (some ⟨mk, 0, none⟩), .agg #[.bool y.p, .int .i64 y.a, .int .i64 y.n], .int .i64 k, .int .i64 n] wc fun e w' => e = .returned (.tuple #[]) ∧ Turned w w' mb lm loc S (layR Sc y k n) ∧ w'.heap[b8]? = some (wdC y) ∧ w'.heap[B]? = some (wdC z3) := by
  obtain ⟨lm1, loc1, R1, ho1, hk1⟩ := T
  exact (lay_any R1 (hM wc hk1) y k n).mono fun e w' ⟨he, hT⟩ => ⟨he, turned_trans hk1.size ho1 hk1 hT, turned_kept hT R1 h8, turned_kept hT R1 hB⟩

theorem lay_wrap (S : MS) (x : Wd) (k n : Int) : layR S x (wrap64 k) n = layR S x k n := by
  have : wr (x.n + wrap64 k) = wr (x.n + k) := by show wrap64 _ = wrap64 _; unfold wrap64; omega
  rw [layR, this, layR]

set_option maxRecDepth 100000 in
set_option maxHeartbeats 1500000 in
theorem frame_any {w : World} {mb mk : Nat} {lm : Option Nat} {loc : Nat → Nat} {S : MS} {p : C.Pg} {oac oaa : Option Addr} {capc capa : Nat} (R : RepAt w mb lm loc S) (hmade : S.blocks.length + 1 < 1000000)
    (co : Nat) (c : C.Cr) (args : List Int)
    (hM : ∀ w', Kept (Owned mb lm loc S) w w' → w'.cell? ⟨mk, 2, none⟩ = some (.pointer (some ⟨mb, 0, none⟩)) ∧ w'.cell? ⟨mk, 1, none⟩ = some (.slice oac p.cs.length capc) ∧ C.CosV w' (.slice oac p.cs.length capc) p.cs ∧ C.IntsV w' (.slice oaa args.length capa) args)
    (hc : p.cs[co]? = some c) (x : Wd) (er : Int) (S' : MS) (h : frameR p S co args = ((x, er), S')) :
    Calls Tryd.prog 24 #[.pointer (some ⟨mk, 0, none⟩), .int .i64 co, .slice oaa args.length capa] w fun e w' => e = .returned (.tuple #[.agg #[.bool x.p, .int .i64 x.a, .int .i64 x.n], .int .i64 er]) ∧ Turned w w' mb lm loc S S' := by
  obtain ⟨W, hW⟩ : ∃ W, W = w.alloc (.cells #[.bool false, .int .i64 0, .int .i64 0] 38) := ⟨_, rfl⟩
  have hbW : Below w.heap.size w W := by rw [hW]; exact C.alloc_below _ _
  have hr0 : W.heap[w.heap.size]? = some (.cells #[.bool false, .int .i64 0, .int .i64 0] 38) := by rw [hW, heap_alloc_new]
  go_enter Tryd.func24, Tryd.ntmps24
  go_upto_region 1 with fail
  rw [← hW]
  clear hW
  obtain ⟨B, hB⟩ : ∃ B, B = w.heap.size := ⟨_, rfl⟩
  rw [← hB] at hr0
  simp only [← hB]
  have hco : coOf p co = c := by simp [coOf, hc]
  have hlc : co < p.cs.length := (List.getElem?_eq_some_iff.1 hc).1
  obtain ⟨y, ey, S1, hal⟩ : ∃ y ey S1, allocR S c.wo = ((y, ey), S1) := ⟨_, _, _, rfl⟩
  obtain ⟨m0, m1, hC, hI⟩ := hM W (Kept.of_below hbW)
  have ml := World.block_lt_of_cell? W _ m0
  obtain ⟨oa', cap', b, off, he, g1, g2, g3, g4⟩ := hC
  cases he
  obtain ⟨rfl, gb⟩ := g3 (by omega)
  obtain ⟨s, -, -, -, k3, -⟩ := g4 co c hc
  obtain ⟨r0, r1, r2, rf, rl⟩ := cells3 hr0
  have HM3 := Lib.hid (show ∀ w', Kept (Owned mb lm loc S) w w' → w'.cell? ⟨mk, 2, none⟩ = some (.pointer (some ⟨mb, 0, none⟩)) ∧ w'.cell? ⟨mk, 1, none⟩ = some (.slice (some ⟨b, off, none⟩) p.cs.length capc) ∧ w'.cell? ⟨b, off + co * 5 + 3, none⟩ = some (.int .i64 c.wo) from fun w' hk => by
    obtain ⟨q0, q1, ⟨oa2, cap2, b2, off2, he2, -, -, q3, q4⟩, -⟩ := hM w' hk
    obtain ⟨s2, -, -, -, k, -⟩ := q4 co c hc
    cases he2
    have q5 := (q3 (by omega)).1
    cases q5
    exact ⟨q0, q1, k⟩)
  have HA := Lib.hid (show ∀ w', Kept (Owned mb lm loc S) w w' → ∀ j z, args[j]? = some z → ∃ bA offA, oaa = some ⟨bA, offA, none⟩ ∧ bA < w'.heap.size ∧ w'.cell? ⟨bA, offA + j, none⟩ = some (.int .i64 z) from fun w' hk j z hz => by
    obtain ⟨-, -, -, ⟨oa2, cap2, b2, off2, he2, -, -, q3, q4⟩⟩ := hM w' hk
    cases he2
    have q5 := q3 (by have := (List.getElem?_eq_some_iff.1 hz).1; omega)
    exact ⟨b2, off2, q5.1, q5.2, q4 j z hz⟩)
  have hlen : args.length ≤ maxLen := by
    obtain ⟨oa2, cap2, b2, off2, he2, q1, q2, -, -⟩ := hI
    omega
  unfold maxLen at hlen
  have hcall := fun (w1 : World) (hb : Below W.heap.size W w1) => M.alloc_gen ((R.below hbW).below hb) hmade c.wo y ey S1 hal
  replace hcall := Lib.hid hcall
  have HM := Lib.hid hM
  have HR := Lib.hid R
  have HB := Lib.hid hB
  have HH := Lib.hid h
  have HW := Lib.hid hbW
  have HC := Lib.hid hc
  have HRR := Lib.hid hr0
  have HCO := Lib.hid hco
  have HAL := Lib.hid hal
  clear hM R hB h hbW hc hI g4 g3 hr0 hco hal
  go_cut [8, 9] (fun s8 s9 wc => s9 = .int .i64 ey ∧ ∃ b8, s8 = .pointer (some ⟨b8, 0, none⟩) ∧ Turned w wc mb lm loc S S1 ∧ wc.heap[b8]? = some (wdC y) ∧ wc.heap[B]? = some (wdC z3))
  case first =>
    have n1 : B ≠ W.heap.size := Nat.ne_of_lt rl
    have n2 : mk ≠ W.heap.size := Nat.ne_of_lt ml
    have n3 : W.heap.size ≠ B := Nat.ne_of_gt rl
    have n4 : W.heap.size ≠ mk := Nat.ne_of_gt ml
    have n5 : b ≠ W.heap.size := Nat.ne_of_lt gb
    have n6 : W.heap.size ≠ b := Nat.ne_of_gt gb
    go_region_held3 (fun w' => w'.cell? ⟨mk, 2, none⟩ = some (.pointer (some ⟨mb, 0, none⟩)) ∧ w'.cell? ⟨mk, 1, none⟩ = some (.slice (some ⟨b, off, none⟩) p.cs.length capc) ∧ w'.cell? ⟨b, off + co * 5 + 3, none⟩ = some (.int .i64 c.wo)) (first | (refine ⟨?_, ?_, ?_⟩ <;> assumption) | go_keep)
      (first
        | (go_at_call 38; refine (hcall.out _ ((C.alloc_below W (.cells #[.bool false, .int .i64 0, .int .i64 0] 38)).drew)).mono ?_; rintro e w3 ⟨rfl, hT⟩; have HF := Lib.hid (armA HW.out HR.out hT HRR.out y); obtain ⟨d0, d1, d2, df, dl⟩ := cells3 HF.out.2.1; obtain ⟨u0, u1, u2⟩ := HM3.out w3 HF.out.1; clear hT)
        | (go_at_call 38; refine (hcall.out _ ((Below.refl W.heap.size W).drew)).mono ?_; rintro e w3 ⟨rfl, hT⟩; have HF := Lib.hid (armB HW.out HR.out hT HRR.out y); obtain ⟨u0, u1, u2⟩ := HM3.out w3 HF.out.1; clear hT))
    all_goals (go_wp2_with fail; go_meet)
    all_goals first | exact ⟨rfl, _, rfl, HF.out.2.1, HF.out.2.2.1, HF.out.2.2.2⟩ | exact ⟨rfl, _, rfl, HF.out.2.2.1, HF.out.2.2.2.1, HF.out.2.2.2.2⟩
  case rest =>
    obtain ⟨rfl, b8, rfl, hT, h8, hB8⟩ := hcut
    have hwB : w.heap.size ≤ B := Nat.le_of_eq HB.out.symm
    obtain ⟨d0, d1, d2, df, dl⟩ := cells3 h8
    have hT' := Lib.hid hT
    have h8' := Lib.hid h8
    have hB' := Lib.hid hB8
    clear r0 r1 r2 rf rl k3 m0 m1
    by_cases h0 : ey = 0
    · have t0 : (ey != 0) = false := by simp [h0]
      have hs : layArgs (layR (layR S1 y 0 0) y 2 co) y args 0 = S' ∧ x = y ∧ er = 0 := by
        have := HH.out
        rw [frameR, HCO.out, HAL.out, if_neg (by simp [h0])] at this
        cases this
        exact ⟨rfl, rfl, rfl⟩
      obtain ⟨hfin, rfl, rfl⟩ := hs
      have hla := fun wc Sc T h8 hB k n => lay_step (w := w) (wc := wc) (mb := mb) (mk := mk) (B := B) (b8 := b8) (lm := lm) (loc := loc) (S := S) (Sc := Sc) (y := x) T h8 hB (fun w' hk => (HM3.out w' hk).1) k n
      replace hla := Lib.hid hla
      replace hfin := Lib.hid hfin
      clear h0 hT h8 hB8
      go_wp2_with fail
      refine (hla.out _ _ hT'.out h8'.out hB'.out 0 0).mono ?_
      rintro e w1 ⟨rfl, hT1, h81, hB1⟩
      clear d0 d1 d2 df dl hT' h8' hB'
      obtain ⟨d0, d1, d2, df, dl⟩ := cells3 h81
      have hT1' := Lib.hid hT1
      have h81' := Lib.hid h81
      have hB1' := Lib.hid hB1
      clear hT1 h81 hB1
      go_wp2_with fail
      refine (hla.out _ _ hT1'.out h81'.out hB1'.out 2 co).mono ?_
      rintro e w2 ⟨rfl, hT2, h82, hB2⟩
      clear d0 d1 d2 df dl hT1' h81' hB1'
      have hT2' := Lib.hid hT2
      have h82' := Lib.hid h82
      have hB2' := Lib.hid hB2
      clear hT2 h82 hB2
      go_wp2_with fail
      go_loopw [42] (fun u wr => ∃ (j : Nat) (Sj : MS), j ≤ args.length ∧ u = .int .i64 j ∧ Turned w wr mb lm loc S Sj ∧ layArgs Sj x (args.drop j) j = S' ∧ wr.heap[b8]? = some (wdC x) ∧ wr.heap[B]? = some (wdC z3)) (fun u _ => args.length - (intOf u).toNat)
      case atStart => exact ⟨0, _, Nat.zero_le _, rfl, hT2'.out, hfin.out, h82'.out, hB2'.out⟩
      case round =>
        obtain ⟨j, Sj, hj, rfl, hTj, hSj, h8j, hBj⟩ := hrel
        clear hT2' h82' hB2'
        obtain ⟨d0, d1, d2, df, dl⟩ := cells3 h8j
        obtain ⟨e0, e1, e2, ef, el⟩ := cells3 hBj
        by_cases hjl : j < args.length
        · have t1 : decide ((j : Int) < args.length) = true := by simp; omega
          obtain ⟨z, hz⟩ : ∃ z, args[j]? = some z := ⟨_, List.getElem?_eq_getElem hjl⟩
          have hkj : Kept (Owned mb lm loc S) w wr := by obtain ⟨_, _, _, _, hk⟩ := hTj; exact hk
          obtain ⟨bA, offA, rfl, gA, a0⟩ := HA.out wr hkj j z hz
          have hdr : args.drop j = z :: args.drop (j + 1) := by rw [List.drop_eq_getElem_cons hjl]; rw [List.getElem?_eq_getElem hjl] at hz; cases hz; rfl
          rw [hdr, layArgs] at hSj
          have hSj' := Lib.hid hSj
          have hst := hla.out wr Sj hTj h8j hBj (wrap64 (3 + (j : Int))) z
          rw [lay_wrap] at hst
          replace hst := Lib.hid hst
          clear hSj hTj h8j hBj hkj hdr hz
          go_wp2_with fail
          refine hst.out.mono ?_
          rintro e w3 ⟨rfl, hT3, h83, hB3⟩
          go_wp2
          go_roundw
          case rel => exact ⟨j + 1, _, by omega, by go_num, hT3, hSj'.out, h83, hB3⟩
          case measure => simp [intOf]; omega
        · have t1 : decide ((j : Int) < args.length) = false := by simp; omega
          obtain rfl : j = args.length := by omega
          rw [List.drop_length, layArgs] at hSj
          subst hSj
          have hfz := set3 (u0 := .bool x.p) (u1 := .int .i64 x.a) (u2 := .int .i64 x.n) hBj
          have hfin2 := Lib.hid (show Turned w (((wr.setCell ⟨B, 0, none⟩ (.bool x.p)).setCell ⟨B, 1, none⟩ (.int .i64 x.a)).setCell ⟨B, 2, none⟩ (.int .i64 x.n)) mb lm loc S Sj from turned_set38 hTj hBj hwB x)
          have hfz' := Lib.hid hfz
          clear hfz hTj h8j hBj
          go_wp2
          have hfz := hfz'.out
          clear hfz'
          generalize (((wr.setCell ⟨B, 0, none⟩ (.bool x.p)).setCell ⟨B, 1, none⟩ (.int .i64 x.a)).setCell ⟨B, 2, none⟩ (.int .i64 x.n)) = WW at hfz hfin2 ⊢
          obtain ⟨y0, y1, y2, yf, yl⟩ := cells3 hfz
          exact bodyPost_ret (v := .tuple #[.agg #[.bool x.p, .int .i64 x.a, .int .i64 x.n], .int .i64 0]) (by simp [results, Tryd.results24, go_sem, y0, y1, y2]) rfl ⟨rfl, hfin2.out⟩
    · have t0 : (ey != 0) = true := by simp [h0]
      have hs : S1 = S' ∧ x = z3 ∧ er = ey := by
        have := HH.out
        rw [frameR, HCO.out, HAL.out, if_pos h0] at this
        cases this
        exact ⟨rfl, rfl, rfl⟩
      obtain ⟨rfl, rfl, rfl⟩ := hs
      have hfin2 := Lib.hid (show Turned w (((wc.setCell ⟨B, 0, none⟩ (.bool false)).setCell ⟨B, 1, none⟩ (.int .i64 0)).setCell ⟨B, 2, none⟩ (.int .i64 0)) mb lm loc S S1 from turned_set38 hT hB8 hwB z3)
      have hfz' := Lib.hid (set3 (u0 := .bool false) (u1 := .int .i64 0) (u2 := .int .i64 0) hB8)
      obtain ⟨e0, e1, e2, ef, el⟩ := cells3 hB8
      clear h0 hT h8 hB8
      go_wp2
      have hfz := hfz'.out
      clear hfz'
      generalize (((wc.setCell ⟨B, 0, none⟩ (.bool false)).setCell ⟨B, 1, none⟩ (.int .i64 0)).setCell ⟨B, 2, none⟩ (.int .i64 0)) = WW at hfz hfin2 ⊢
      obtain ⟨y0, y1, y2, yf, yl⟩ := cells3 hfz
      exact bodyPost_ret (v := .tuple #[.agg #[.bool false, .int .i64 0, .int .i64 0], .int .i64 er]) (by simp [results, Tryd.results24, go_sem, y0, y1, y2]) rfl ⟨rfl, hfin2.out⟩
end Go.Proofs.YtgpkhdccchpljaaDoor
