/-
  The viewer's coroutine. Conditions: what it looks at lies in the heap.
-/
import Derived.Test.YtobhfmliaecbjaaDoorView
namespace Go.Proofs.YtobhfmliaecbjaaDoor
open Go.RowKit

def coB (ks : List Int) (c : Cr) : Bool := isB ks c.re 1 && (isB ks c.ca 2 && (decide (3 ≤ c.wo) && (decide (c.wo ≤ 1048576) && (decide (0 ≤ c.ar) && decide (c.ar ≤ c.wo - 3)))))

set_option maxRecDepth 100000 in
set_option maxHeartbeats 2000000 in
theorem co_any (w : World) (fv cv kv : Value) (ks : List Int) (hI : IntsV w kv ks) (c : Cr) (s : ByteArray) : Calls Tryd.prog 32 #[.agg #[fv, cv, kv], .agg #[.string s, .int .i64 c.re, .int .i64 c.ca, .int .i64 c.wo, .int .i64 c.ar]] w fun e w' => e = .returned (.bool (coB ks c)) ∧ Below w.heap.size w w' := by
  have hb2 : Below w.heap.size w ((w.alloc (.cells #[fv, cv, kv] 57)).alloc (.cells #[.string s, .int .i64 c.re, .int .i64 c.ca, .int .i64 c.wo, .int .i64 c.ar] 55)) := (alloc_below _ _).alloc (by simp) _
  have HKV := Lib.hid (hI.below ⟨hb2.os, hb2.tape, hb2.output, hb2.size, hb2.block⟩)
  replace hb2 := Lib.hid hb2
  have bc : ∀ j u w1, Below ((w.alloc (.cells #[fv, cv, kv] 57)).alloc (.cells #[.string s, .int .i64 c.re, .int .i64 c.ca, .int .i64 c.wo, .int .i64 c.ar] 55)).heap.size ((w.alloc (.cells #[fv, cv, kv] 57)).alloc (.cells #[.string s, .int .i64 c.re, .int .i64 c.ca, .int .i64 c.wo, .int .i64 c.ar] 55)) w1 →
      (#[.string s, .int .i64 c.re, .int .i64 c.ca, .int .i64 c.wo, .int .i64 c.ar] : Array Value)[j]? = some u → w1.cell? ⟨w.heap.size + 1, j, none⟩ = some u := fun j u w1 hb hu => by
    have h := alloc_cell (w.alloc (.cells #[fv, cv, kv] 57)) #[.string s, .int .i64 c.re, .int .i64 c.ca, .int .i64 c.wo, .int .i64 c.ar] 55 j u hu
    rw [show (w.alloc (.cells #[fv, cv, kv] 57)).heap.size = w.heap.size + 1 by simp] at h
    exact (hb.cell (p := ⟨w.heap.size + 1, j, none⟩) (by simp)).trans h
  have vc : ∀ j u w1, Below ((w.alloc (.cells #[fv, cv, kv] 57)).alloc (.cells #[.string s, .int .i64 c.re, .int .i64 c.ca, .int .i64 c.wo, .int .i64 c.ar] 55)).heap.size ((w.alloc (.cells #[fv, cv, kv] 57)).alloc (.cells #[.string s, .int .i64 c.re, .int .i64 c.ca, .int .i64 c.wo, .int .i64 c.ar] 55)) w1 →
      (#[fv, cv, kv] : Array Value)[j]? = some u → w1.cell? ⟨w.heap.size, j, none⟩ = some u := fun j u w1 hb hu => (hb.cell (p := ⟨w.heap.size, j, none⟩) (by simp; omega)).trans ((alloc_same _ _ _ (by simp)).trans (alloc_cell w #[fv, cv, kv] 57 j u hu))
  replace bc := Lib.hid bc
  replace vc := Lib.hid vc
  go_enter Tryd.func32, Tryd.ntmps32
  go_wp2_with fail
  refine (is_any _ fv cv kv ks HKV.out c.re 1).mono ?_
  rintro e w1 ⟨rfl, hb3⟩
  cases h1 : isB ks c.re 1 with
  | false =>
    have H1 := Lib.hid h1
    clear h1
    have hB := hb2.out.trans (hb3.mono hb2.out.size)
    clear hb3
    go_wp2
    go_ret
    exact ⟨by rw [coB, H1.out]; rfl, hB⟩
  | true =>
    have H1 := Lib.hid h1
    clear h1
    have c0 := bc.out 0 _ _ hb3 rfl
    have c1 := bc.out 1 _ _ hb3 rfl
    have c2 := bc.out 2 _ _ hb3 rfl
    have c3 := bc.out 3 _ _ hb3 rfl
    have c4 := bc.out 4 _ _ hb3 rfl
    have d0 := vc.out 0 _ _ hb3 rfl
    have d1 := vc.out 1 _ _ hb3 rfl
    have d2 := vc.out 2 _ _ hb3 rfl
    go_wp2_with fail
    refine (is_any _ fv cv kv ks (HKV.out.below hb3) c.ca 2).mono ?_
    rintro e w2 ⟨rfl, hb4⟩
    have hb5 := hb3.trans (hb4.mono hb3.size)
    have hB := hb2.out.trans (hb5.mono hb2.out.size)
    clear c0 c1 c2 c3 c4 d0 d1 d2 hb3 hb4
    cases h2 : isB ks c.ca 2 with
    | false =>
      have H2 := Lib.hid h2
      clear h2 hb5
      go_wp2
      go_ret
      exact ⟨by rw [coB, H1.out, H2.out]; rfl, hB⟩
    | true =>
      have H2 := Lib.hid h2
      clear h2
      have c3 := bc.out 3 _ _ hb5 rfl
      have c4 := bc.out 4 _ _ hb5 rfl
      have HRES := Lib.hid (show coB ks c = (decide (3 ≤ c.wo) && (decide (c.wo ≤ 1048576) && (decide (0 ≤ c.ar) && decide (c.ar ≤ c.wo - 3)))) by rw [coB, H1.out, H2.out]; rfl)
      clear hb5 bc vc HKV hb2
      generalize c.wo = wo at c3 HRES ⊢
      generalize c.ar = ar at c4 HRES ⊢
      by_cases t1 : 3 ≤ wo
      · by_cases t2 : wo ≤ 1048576
        · have hw : wrap64 (wo - 3) = wo - 3 := IntWalk.wrap64_in _ ⟨by omega, by omega⟩
          by_cases t3 : 0 ≤ ar
          · by_cases t4 : ar ≤ wo - 3
            · have q1 : decide (wo ≥ 3) = true := by simpa using t1
              have q2 : decide (wo ≤ 1048576) = true := by simpa using t2
              have q3 : decide (ar ≥ 0) = true := by simpa using t3
              have q4 : decide (ar ≤ wo - 3) = true := by simpa using t4
              clear hw
              go_wp2
              go_ret
              exact ⟨by rw [HRES.out, decide_eq_true t1, decide_eq_true t2, decide_eq_true t3, decide_eq_true t4]; rfl, hB⟩
            · have q1 : decide (wo ≥ 3) = true := by simpa using t1
              have q2 : decide (wo ≤ 1048576) = true := by simpa using t2
              have q3 : decide (ar ≥ 0) = true := by simpa using t3
              have q4 : decide (ar ≤ wo - 3) = false := by simpa using t4
              clear hw
              go_wp2
              go_ret
              exact ⟨by rw [HRES.out, decide_eq_true t1, decide_eq_true t2, decide_eq_true t3, decide_eq_false (by omega)]; rfl, hB⟩
          · have q1 : decide (wo ≥ 3) = true := by simpa using t1
            have q2 : decide (wo ≤ 1048576) = true := by simpa using t2
            have q3 : decide (ar ≥ 0) = false := by simpa using t3
            clear hw
            go_wp2
            go_ret
            exact ⟨by rw [HRES.out, decide_eq_true t1, decide_eq_true t2, decide_eq_false (by omega)]; rfl, hB⟩
        · have q1 : decide (wo ≥ 3) = true := by simpa using t1
          have q2 : decide (wo ≤ 1048576) = false := by simpa using t2
          go_wp2
          go_ret
          exact ⟨by rw [HRES.out, decide_eq_true t1, decide_eq_false (by omega)]; rfl, hB⟩
      · have q1 : decide (wo ≥ 3) = false := by simpa using t1
        go_wp2
        go_ret
        exact ⟨by rw [HRES.out, decide_eq_false (by omega)]; rfl, hB⟩
end Go.Proofs.YtobhfmliaecbjaaDoor
