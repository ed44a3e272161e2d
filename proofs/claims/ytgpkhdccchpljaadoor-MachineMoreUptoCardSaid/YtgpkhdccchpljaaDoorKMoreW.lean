/-
  word of the law of package machine, and rows of addresses. Conditions: the row lies in the heap.
-/
import Derived.Test.YtgpkhdccchpljaaDoorKJTable
import Derived.Test.YtgpkhdccchpljaaDoorKJNum
namespace Go.Proofs.YtgpkhdccchpljaaDoor
open Go.RowKit
open M (Wd MS RepAt Owned Kept Turned)

def wdR (x : Wd) : List Value := [.bool x.p, .int .i64 x.a, .int .i64 x.n]
def wdW (x : Wd) : Value := .agg #[.bool x.p, .int .i64 x.a, .int .i64 x.n]
theorem own_cellsW {w : World} {base e size g cap n : Nat} {xs : List Value} (h : w.ownsRow base e size (.slice (some ⟨g, 0, none⟩) n cap) n xs) : g < w.heap.size ∧ base ≤ g ∧ (∀ i u, xs[i]? = some u → w.cell? ⟨g, i, none⟩ = some u) ∧ (∀ i, w.frozen? ⟨g, i, none⟩ = false) ∧ n ≤ cap ∧ cap ≤ maxLen := by
  rcases h.2 with ⟨hv, _⟩ | ⟨g', cap', cur, hv, hbb, hgg, h1, h2, h3, h4⟩
  · cases hv
  · cases hv
    refine ⟨(Array.getElem?_eq_some_iff.1 hgg).1, hbb, fun i u hu => ?_, fun i => by simp [World.frozen?, hgg], h1, h2⟩
    have hi : i < n * size := by have := (List.getElem?_eq_some_iff.1 hu).1; rw [h.1] at this; exact this
    rw [← h4, List.getElem?_take_of_lt hi] at hu
    simp only [World.cell?, hgg]
    simpa using hu

/-- a frame's address, or the number -/
def wordL (l : List Wd) (a : Int) : Wd := if 0 ≤ a ∧ a < l.length then l.getD a.toNat z3 else ⟨false, 0, a⟩
theorem wds_get : ∀ (l : List Wd) (i j : Nat) (x : Wd), l[i]? = some x → j < 3 → (l.flatMap wdR)[i * 3 + j]? = (wdR x)[j]?
  | [], i, j, x, h, _ => by simp at h
  | y :: l, 0, j, x, h, hj => by
    simp only [List.length_cons, List.getElem?_cons_zero, Option.some.injEq] at h
    subst h
    simp only [List.flatMap_cons, Nat.zero_mul, Nat.zero_add]
    exact List.getElem?_append_left (by simpa [wdR] using hj)
  | y :: l, i + 1, j, x, h, hj => by
    simp only [List.getElem?_cons_succ] at h
    have := wds_get l i j x h hj
    simp only [List.flatMap_cons]
    rw [List.getElem?_append_right (by simp [wdR]; omega)]
    rw [← this]
    congr 1
    simp [wdR]; omega
set_option maxRecDepth 100000 in
set_option maxHeartbeats 4000000 in
theorem wordL_any {w : World} {B : Nat} {v : Value} {l : List Wd} (h : w.ownsRow B 38 3 v l.length (l.flatMap wdR)) (hl : l.length < 1000000) (a : Int) :
    Calls Tryd.prog 10 #[v, .int .i64 a] w fun e w' => e = .returned (wdW (wordL l a)) ∧ Below w.heap.size w w' := by
  obtain ⟨n, hn⟩ : ∃ n, l.length = n := ⟨_, rfl⟩
  have hwl : wordL l a = if 0 ≤ a ∧ a < n then l.getD a.toNat z3 else ⟨false, 0, a⟩ := by rw [← hn]; rfl
  rw [hn] at h hl
  have HN := Lib.hid hn
  clear hn
  obtain ⟨o1, c1, rfl⟩ : ∃ o1 c1, v = .slice o1 n c1 := by
    rcases h.2 with ⟨rfl, h0⟩ | ⟨g, cap, cur, rfl, -⟩
    · exact ⟨_, _, by subst h0; rfl⟩
    · exact ⟨_, _, rfl⟩
  have H1 := Lib.hid h
  clear h
  obtain ⟨W, hW⟩ : ∃ W, W = w.alloc (.cells #[.bool false, .int .i64 0, .int .i64 0] 38) := ⟨_, rfl⟩
  have hbW : Below w.heap.size w W := by rw [hW]; exact C.alloc_below _ _
  have hx0 : W.heap[w.heap.size]? = some (.cells #[.bool false, .int .i64 0, .int .i64 0] 38) := by rw [hW, heap_alloc_new]
  obtain ⟨B, hB⟩ : ∃ B, B = w.heap.size := ⟨_, rfl⟩
  have hBw : w.heap.size ≤ B := Nat.le_of_eq hB.symm
  rw [← hB] at hx0
  have HX := Lib.hid hx0
  have HW := Lib.hid hbW
  have HL := Lib.hid hwl
  obtain ⟨x0, x1, x2, xf, xl⟩ := cells3 hx0
  go_enter Tryd.func10, Tryd.ntmps10
  go_upto_region 1 with fail
  rw [← hW]
  simp only [← hB]
  clear hW hbW hx0 hwl
  replace hB := Lib.hid hB
  have hend : ∀ y : Wd, Below w.heap.size w (((W.setCell ⟨B, 0, none⟩ (.bool y.p)).setCell ⟨B, 1, none⟩ (.int .i64 y.a)).setCell ⟨B, 2, none⟩ (.int .i64 y.n)) := fun y => ((HW.out.setCell hBw _).setCell hBw _).setCell hBw _
  have HE := Lib.hid hend
  clear hend
  by_cases h0 : 0 ≤ a
  · by_cases h1 : a < n
    · obtain ⟨i, rfl⟩ : ∃ i : Nat, a = i := ⟨a.toNat, by omega⟩
      have hin : i < n := by omega
      obtain ⟨x, hx⟩ : ∃ x, l[i]? = some x := ⟨_, List.getElem?_eq_getElem (by have := HN.out; omega)⟩
      obtain ⟨g, rfl⟩ : ∃ g, o1 = some ⟨g, 0, none⟩ := by
        rcases H1.out.2 with ⟨_, h0⟩ | ⟨g, c, cu, hv', _⟩
        · omega
        · cases hv'; exact ⟨g, rfl⟩
      obtain ⟨g1, -, g3, -, -, -⟩ := own_cellsW H1.out
      have ga : ∀ j u, j < 3 → (wdR x)[j]? = some u → W.cell? ⟨g, i * 3 + j, none⟩ = some u := fun j u hj hu => (HW.out.cell (p := ⟨g, i * 3 + j, none⟩) g1).trans (g3 _ _ ((wds_get l i j x hx hj).trans hu))
      have a0 := ga 0 _ (by omega) rfl
      have a1 := ga 1 _ (by omega) rfl
      have a2 := ga 2 _ (by omega) rfl
      rw [Nat.add_zero] at a0
      have gl : g < W.heap.size := Nat.lt_of_lt_of_le g1 HW.out.size
      have hii : (i : Int) < n := by omega
      have t0 : decide (0 ≤ (i : Int)) = true := by simp
      have t1 : decide ((i : Int) < n) = true := by simp; omega
      have hwx : wordL l i = x := by
        have := HL.out
        rw [if_pos ⟨h0, h1⟩] at this
        rw [this]
        simp [List.getD_eq_getElem?_getD, hx]
      have HWX := Lib.hid hwx
      clear ga g3 g1 hx hwx h0 h1
      go_wp2
      have hf := set3 (u0 := .bool x.p) (u1 := .int .i64 x.a) (u2 := .int .i64 x.n) HX.out
      have hbb := HE.out ⟨x.p, x.a, x.n⟩
      simp only at hbb
      generalize (World.setCell (World.setCell (World.setCell W _ _) _ _) _ _) = WF at hf hbb ⊢
      obtain ⟨q0, q1, q2, qf, ql⟩ := cells3 hf
      exact bodyPost_ret (v := .agg #[.bool x.p, .int .i64 x.a, .int .i64 x.n]) (by simp [results, Tryd.results10, go_sem, q0, q1, q2]) rfl ⟨by rw [HWX.out]; rfl, hbb⟩
    · have t0 : decide (0 ≤ a) = true := by simpa using h0
      have t1 : decide (a < (n : Int)) = false := by simpa using h1
      have hwx : wordL l a = ⟨false, 0, a⟩ := by
        have := HL.out
        rw [if_neg (fun h => h1 h.2)] at this
        exact this
      have HWX := Lib.hid hwx
      clear hwx h0 h1
      go_wp2
      have hf := set3 (u0 := .bool false) (u1 := .int .i64 0) (u2 := .int .i64 a) HX.out
      have hbb := HE.out ⟨false, 0, a⟩
      simp only at hbb
      generalize (World.setCell (World.setCell (World.setCell W _ _) _ _) _ _) = WF at hf hbb ⊢
      obtain ⟨q0, q1, q2, qf, ql⟩ := cells3 hf
      exact bodyPost_ret (v := .agg #[.bool false, .int .i64 0, .int .i64 a]) (by simp [results, Tryd.results10, go_sem, q0, q1, q2]) rfl ⟨by rw [HWX.out]; rfl, hbb⟩
  · have t0 : decide (0 ≤ a) = false := by simpa using h0
    have hwx : wordL l a = ⟨false, 0, a⟩ := by
      have := HL.out
      rw [if_neg (fun h => h0 h.1)] at this
      exact this
    have HWX := Lib.hid hwx
    clear hwx h0
    go_wp2
    have hf := set3 (u0 := .bool false) (u1 := .int .i64 0) (u2 := .int .i64 a) HX.out
    have hbb := HE.out ⟨false, 0, a⟩
    simp only at hbb
    generalize (World.setCell (World.setCell (World.setCell W _ _) _ _) _ _) = WF at hf hbb ⊢
    obtain ⟨q0, q1, q2, qf, ql⟩ := cells3 hf
    exact bodyPost_ret (v := .agg #[.bool false, .int .i64 0, .int .i64 a]) (by simp [results, Tryd.results10, go_sem, q0, q1, q2]) rfl ⟨by rw [HWX.out]; rfl, hbb⟩
end Go.Proofs.YtgpkhdccchpljaaDoor
