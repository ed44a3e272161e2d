/-
  Several texts of the proof in one: KTop, KTurn, KTable. No conditions of their own: each lemma states its own.
-/
import Derived.Test.YtgpkhdccchpljaaDoorKJBegin
namespace Go.Proofs.YtgpkhdccchpljaaDoor
open Go.RowKit
open M (Wd MS RepAt Owned Kept Turned)

theorem regs_len (l : List Wd) : (l.flatMap wd3).length = l.length * 3 := by
  induction l with
  | nil => rfl
  | cons x l ih => rw [List.flatMap_cons, List.length_append, ih, List.length_cons]; simp [wd3]; omega
theorem regs_get : ∀ (l : List Wd) (i j : Nat) (x : Wd), l[i]? = some x → j < 3 → (l.flatMap wd3)[i * 3 + j]? = (wd3 x)[j]?
  | [], i, j, x, h, _ => by simp at h
  | a :: l, 0, j, x, h, hj => by
    simp at h
    subst h
    rw [List.flatMap_cons, List.getElem?_append_left (by simp [wd3]; omega), Nat.zero_mul, Nat.zero_add]
  | a :: l, i + 1, j, x, h, hj => by
    rw [List.flatMap_cons, List.getElem?_append_right (by simp [wd3]; omega)]
    have e : (i + 1) * 3 + j - (wd3 a).length = i * 3 + j := by simp [wd3]; omega
    rw [e]
    exact regs_get l i j x (by simpa using h) hj
theorem regs_set : ∀ (l : List Wd) (i : Nat) (x : Wd), i < l.length → (((l.flatMap wd3).set (i * 3) (.bool x.p)).set (i * 3 + 1) (.int .i64 x.a)).set (i * 3 + 2) (.int .i64 x.n) = (l.set i x).flatMap wd3
  | [], i, x, h => by simp at h
  | a :: l, 0, x, h => by simp [wd3]
  | a :: l, i + 1, x, h => by
    have h1 := regs_set l i x (by simpa using h)
    have e1 : (i + 1) * 3 = i * 3 + 1 + 1 + 1 := by omega
    rw [List.set_cons_succ, List.flatMap_cons, List.flatMap_cons, ← h1, e1]
    simp [wd3]

/-- a register's place in a run's block -/
theorem ru_get {up fv : Value} {r : Ru} {i j : Nat} {x : Wd} (h : r.rg[i]? = some x) (hj : j < 3) : (ruC up fv r).toArray[6 + i * 3 + j]? = (wd3 x)[j]? := by
  rw [List.getElem?_toArray, ruC, show 6 + i * 3 + j = (3 + (3 + (i * 3 + j))) by omega, List.getElem?_append_right (by simp), List.getElem?_append_right (by simp [wd3])]
  rw [← regs_get r.rg i j x h hj]
  congr 1
  simp [wd3]
theorem ru_next {up fv : Value} {r : Ru} : (ruC up fv r).toArray[2]? = some (.int .i64 r.nx) := rfl
theorem ru_set_next (up fv : Value) (r : Ru) (n : Nat) : (ruC up fv r).toArray.setIfInBounds 2 (.int .i64 n) = (ruC up fv { r with nx := n }).toArray := by
  rw [List.setIfInBounds_toArray]
  rfl
theorem ru_put (up fv : Value) (r : Ru) (i : Nat) (x : Wd) (hi : i < r.rg.length) :
    ((((ruC up fv r).toArray.setIfInBounds (6 + i * 3) (.bool x.p)).setIfInBounds (6 + i * 3 + 1) (.int .i64 x.a)).setIfInBounds (6 + i * 3 + 2) (.int .i64 x.n)) = (ruC up fv { r with rg := r.rg.set i x }).toArray := by
  rw [List.setIfInBounds_toArray, List.setIfInBounds_toArray, List.setIfInBounds_toArray]
  congr 1
  rw [ruC, ruC, ← regs_set r.rg i x hi]
  have e : 6 + i * 3 = i * 3 + 1 + 1 + 1 + 1 + 1 + 1 := by omega
  rw [e]
  simp [wd3]

/-- the topmost run is turned -/
theorem Turns.top {w0 w w' : World} {L : Ly} {c : Cx} {s : Se} {r r' : Ru} {rs : List Ru} {b : Nat} {bs : List Nat} (h : SesAt w0 w L c s) (hrs : s.rs = r :: rs) (hrb : L.rb = b :: bs) (hfn : r'.fn = r.fn) (hl : r'.rg.length = 16)
    (os : w'.os = w.os) (tape : w'.tape = w.tape) (output : w'.output = w.output) (size : w.heap.size ≤ w'.heap.size)
    (hk : ∀ q, q ≠ b → q < w.heap.size → w'.heap[q]? = w.heap[q]?) (hn : ∀ fv, w.heap[b]? = some (.cells (ruC (upV bs) fv r).toArray 120) → w'.heap[b]? = some (.cells (ruC (upV bs) fv r').toArray 120)) :
    Turns w0 w w' L c s { s with rs := r' :: rs } := by
  have hrun := h.runs
  rw [hrs, hrb] at hrun
  obtain ⟨⟨fv, h1, h2⟩, h3, h4, h5⟩ := hrun
  have hlt := h.lt
  have hbl : Own L s.S b := .inr (.inr (.inr (.inr (.inr (by rw [hrb]; simp)))))
  have hnb : ∀ {q : Nat} {cs : Array Value} {t : TypeId}, w.heap[q]? = some (.cells cs t) → t ≠ 120 → q ≠ b := fun hq ht e => by
    rw [e, h1] at hq; simp at hq; exact ht hq.2.symm
  obtain ⟨fm, cm, m1, m2⟩ := h.mach
  have hown : ¬ Owned L.mb L.lm L.loc s.S b := not_owned h.mem (by decide) h1
  refine ⟨L, rfl, rfl, rfl, rfl, ⟨⟨fm, cm, (hk _ (hnb m1 (by decide)) (hlt _ (.inl rfl))).trans m1, m2⟩, ?_, ?_, ?_, ?_, ?_, h.own, h.apart, h.evs.1, ?_⟩, fun q hq => .inl hq, ⟨os, tape, output, size, fun q hq hn => hk q (fun e => hn (e ▸ hbl)) hq⟩⟩
  · have h6 := h.ses
    rw [sesC] at h6
    refine (hk _ (hnb h6 (by decide)) (hlt _ (.inr (.inl rfl)))).trans ?_
    rw [h6, sesC]
  · exact h.mem.keep fun q hq => hk q (fun e => hown (e ▸ hq)) (hlt q (.inr (.inr (.inl hq))))
  · exact own_keep h.told fun q hq => by
      obtain ⟨_, h7⟩ := own_blk h.told hq
      exact hk q (hnb h7 (by decide)) (hlt q (.inr (.inr (.inr (.inr (.inl hq))))))
  · rw [hrb]
    exact ⟨⟨fv, hn fv h1, by rw [hfn]; exact h2⟩, hl, h4, RunsAt.keep _ _ h5 fun q hq => hk q (fun e => h4 (e ▸ hq)) (hlt q (.inr (.inr (.inr (.inr (.inr (by rw [hrb]; simp [hq])))))))⟩
  · exact h.below.next size fun q hl hf => hk q (fun e => hf (e ▸ h.own b hbl)) hl
  · intro q hq
    obtain ⟨D, ⟨es, clock, h7, h8⟩, h9⟩ := h.evs.2 q hq
    exact ⟨D, ⟨es, clock, (hk q (fun e => by rw [e, h1] at h7; cases h7) (hlt q (.inr (.inr (.inr (.inl hq)))))).trans h7, h8⟩, h9⟩
end Go.Proofs.YtgpkhdccchpljaaDoor

namespace Go.Proofs.YtgpkhdccchpljaaDoor
open Go.RowKit
open M (Wd MS RepAt Owned Kept Turned)
open C (In)

def turnR (r : Ru) (x : In) : Int × Ru :=
  if x.op = 13 then (0, { r with nx := In.lab x 0 })
  else if numE (r.get x.a) ≠ 0 then (numE (r.get x.a), r)
  else if x.op = 14 then (if (r.get x.a).n ≠ 0 then (0, { r with nx := In.lab x 0 }) else (0, r))
  else if (r.get x.a).n < 0 ∨ (x.l.length : Int) ≤ (r.get x.a).n then (31, r)
  else (0, { r with nx := In.lab x (r.get x.a).n })

theorem run_cell {w : World} {b j : Nat} {up fv v : Value} {r : Ru} (h : w.heap[b]? = some (.cells (ruC up fv r).toArray 120)) (hv : (ruC up fv r).toArray[j]? = some v) : w.cell? ⟨b, j, none⟩ = some v := by
  simp only [World.cell?, h]
  exact hv

/-- A jump. -/
theorem jump_any {w0 w : World} {L : Ly} {c : Cx} {s : Se} {r : Ru} {rs : List Ru} {b : Nat} {bs : List Nat} (H : SesAt w0 w L c s) (hrs : s.rs = r :: rs) (hrb : L.rb = b :: bs) (x : In) (lv : Value) (hlv : C.IntsV w0 lv x.l) (hop : x.op = 13) (hA : 0 ≤ x.a ∧ x.a < 16) (hl : 0 < x.l.length) (hl0 : ∀ z ∈ x.l, 0 ≤ z) :
    Calls Tryd.prog 59 #[.pointer (some ⟨b, 0, none⟩), .agg #[.int .i64 x.op, .int .i64 x.a, .int .i64 x.b, .int .i64 x.c, lv]] w fun e w' => e = .returned (.int .i64 0) ∧ Turns w0 w w' L c s { s with rs := { r with nx := In.lab x 0 } :: rs } := by
  obtain ⟨oal, capl, bl, ol, rfl, -, -, l3, l4⟩ := hlv
  obtain ⟨rfl, lb⟩ := l3 hl
  obtain ⟨z, hz⟩ : ∃ z, x.l[0]? = some z := ⟨_, List.getElem?_eq_getElem hl⟩
  have hz0 := hl0 z (List.mem_of_getElem? hz)
  obtain ⟨m, rfl⟩ : ∃ m : Nat, z = m := ⟨z.toNat, by omega⟩
  have hlab : In.lab x 0 = m := by simp [In.lab, List.getD_eq_getElem?_getD, hz]
  have k0 := l4 0 _ hz
  obtain ⟨i, hi⟩ : ∃ i : Nat, x.a = i := ⟨x.a.toNat, by omega⟩
  obtain ⟨j, hj⟩ : ∃ j, j = i := ⟨i, rfl⟩
  have hi16 : i < 16 := by omega
  have hi17 : (i : Int) < 16 := by omega
  have hrun := H.runs
  rw [hrs, hrb] at hrun
  obtain ⟨⟨fv, h1, h2⟩, h3, h4, h5⟩ := hrun
  obtain ⟨y, hy⟩ : ∃ y, r.rg[i]? = some y := ⟨_, List.getElem?_eq_getElem (by omega)⟩
  obtain ⟨W, hW⟩ : ∃ W, W = w.alloc (.cells #[.int .i64 13, .int .i64 i, .int .i64 x.b, .int .i64 x.c, .slice (some ⟨bl, ol, none⟩) x.l.length capl] 84) := ⟨_, rfl⟩
  have hbW : Below w.heap.size w W := by rw [hW]; exact C.alloc_below _ _
  have hx : W.heap[w.heap.size]? = some (.cells #[.int .i64 13, .int .i64 i, .int .i64 x.b, .int .i64 x.c, .slice (some ⟨bl, ol, none⟩) x.l.length capl] 84) := by rw [hW, heap_alloc_new]
  have hbl : Own L s.S b := .inr (.inr (.inr (.inr (.inr (by rw [hrb]; simp)))))
  have hbs := H.lt b hbl
  have h1' := (hbW.block b hbs).trans h1
  have c0 : W.cell? ⟨b, 6 + i * 3, none⟩ = some (.bool y.p) := run_cell h1' (ru_get (up := upV bs) (fv := fv) hy (show 0 < 3 by decide))
  have c1 : W.cell? ⟨b, 6 + i * 3 + 1, none⟩ = some (.int .i64 y.a) := run_cell h1' (ru_get (up := upV bs) (fv := fv) hy (show 1 < 3 by decide))
  have c2 : W.cell? ⟨b, 6 + i * 3 + 2, none⟩ = some (.int .i64 y.n) := run_cell h1' (ru_get (up := upV bs) (fv := fv) hy (show 2 < 3 by decide))
  have c3 := run_cell h1' (ru_next (up := upV bs) (fv := fv) (r := r))
  have cf : ∀ q, W.frozen? ⟨b, q, none⟩ = false := fun q => by simp [World.frozen?, h1']
  have cl := (Array.getElem?_eq_some_iff.1 h1').1
  replace k0 := (H.under hbW).below.cell' _ _ k0
  have hll : bl < W.heap.size := Nat.lt_of_lt_of_le lb (H.under hbW).below.size
  obtain ⟨x0, x1, x2, x3, x4, xf, xl⟩ := cells5 hx
  have hne : w.heap.size ≠ b := Nat.ne_of_gt hbs
  have HT := Lib.hid (fun (w' : World) => Turns.top (w' := w') (r' := { r with nx := m }) H hrs hrb rfl h3)
  have HW := Lib.hid hbW
  have HLAB := Lib.hid hlab
  have H1 := Lib.hid h1'
  have HX := Lib.hid hx
  rw [hop, hi]
  obtain ⟨B, hB⟩ : ∃ B, B = w.heap.size := ⟨_, rfl⟩
  go_enter Tryd.func59, Tryd.ntmps59
  go_upto_region 1 with fail
  rw [← hW]
  clear hW hbW hx h1' h1 h2 h4 h5 hi hop hlab l3 l4 hz hy hj
  rw [← hB] at x0 x1 x2 x3 x4 xl hne HX
  simp only [← hB] at xf ⊢
  replace hB := Lib.hid hB
  go_region
  have hb5 : Below W.heap.size W (W.alloc (.cells #[.bool y.p, .int .i64 y.a, .int .i64 y.n] 38)).drew := (C.alloc_below W _).drew
  have hx5 := (hb5.block B xl).trans HX.out
  have h15 := (hb5.block b cl).trans H1.out
  have k5 := (hb5.cell (p := ⟨bl, ol + 0, none⟩) hll).trans k0
  have hBW5 := HW.out.trans (hb5.mono HW.out.size)
  clear x0 x1 x2 x3 x4 xf xl c0 c1 c2 c3 cf cl k0 hb5
  generalize (W.alloc (.cells #[.bool y.p, .int .i64 y.a, .int .i64 y.n] 38)).drew = W5 at hx5 h15 k5 hBW5 ⊢
  generalize W.heap.size = b5
  have c3 := run_cell h15 (ru_next (up := upV bs) (fv := fv) (r := r))
  have cf : ∀ q, W5.frozen? ⟨b, q, none⟩ = false := fun q => by simp [World.frozen?, h15]
  obtain ⟨x0, x1, x2, x3, x4, xf, xl⟩ := cells5 hx5
  have hfin := Lib.hid (HT.out (W5.setCell ⟨b, 2, none⟩ (.int .i64 m)) hBW5.os hBW5.tape hBW5.output (by have := hBW5.size; simp [World.setCell]; omega)
    (fun q hq hl => (Below.heap_setCell _ _ _ _ hq).trans (hBW5.block q hl)) (fun fv' hf' => by
      have e1 := (hBW5.block b hbs).trans hf'
      rw [heap_setCell_same W5 b 2 _ 120 _ e1, ru_set_next]))
  clear h15 hx5 hBW5
  rw [Nat.add_zero] at k5
  go_wp2
  go_ret
  exact ⟨rfl, by rw [HLAB.out]; exact hfin.out⟩
end Go.Proofs.YtgpkhdccchpljaaDoor

namespace Go.Proofs.YtgpkhdccchpljaaDoor
open Go.RowKit
open M (Wd MS RepAt Owned Kept Turned)
open C (In)

set_option maxRecDepth 100000 in
set_option maxHeartbeats 2000000 in
theorem if_any {w0 w : World} {L : Ly} {c : Cx} {s : Se} {r : Ru} {rs : List Ru} {b : Nat} {bs : List Nat} (H : SesAt w0 w L c s) (hrs : s.rs = r :: rs) (hrb : L.rb = b :: bs) (x : In) (lv : Value) (hlv : C.IntsV w0 lv x.l) (hop : x.op = 14) (hA : 0 ≤ x.a ∧ x.a < 16) (hl : 0 < x.l.length) (hl0 : ∀ z ∈ x.l, 0 ≤ z) :
    Calls Tryd.prog 59 #[.pointer (some ⟨b, 0, none⟩), .agg #[.int .i64 x.op, .int .i64 x.a, .int .i64 x.b, .int .i64 x.c, lv]] w fun e w' => e = .returned (.int .i64 (turnR r x).1) ∧ Turns w0 w w' L c s { s with rs := (turnR r x).2 :: rs } := by
  obtain ⟨oal, capl, bl, ol, rfl, -, -, l3, l4⟩ := hlv
  obtain ⟨i, hi⟩ : ∃ i : Nat, x.a = i := ⟨x.a.toNat, by omega⟩
  have hi16 : i < 16 := by omega
  have hi17 : (i : Int) < 16 := by omega
  have hrun := H.runs
  rw [hrs, hrb] at hrun
  obtain ⟨⟨fv, h1, h2⟩, h3, h4, h5⟩ := hrun
  obtain ⟨y, hy⟩ : ∃ y, r.rg[i]? = some y := ⟨_, List.getElem?_eq_getElem (by omega)⟩
  have hget : r.get x.a = y := by rw [hi]; simp [Ru.get, List.getD_eq_getElem?_getD, hy]
  obtain ⟨W, hW⟩ : ∃ W, W = w.alloc (.cells #[.int .i64 14, .int .i64 i, .int .i64 x.b, .int .i64 x.c, .slice oal x.l.length capl] 84) := ⟨_, rfl⟩
  have hbW : Below w.heap.size w W := by rw [hW]; exact C.alloc_below _ _
  have hx : W.heap[w.heap.size]? = some (.cells #[.int .i64 14, .int .i64 i, .int .i64 x.b, .int .i64 x.c, .slice oal x.l.length capl] 84) := by rw [hW, heap_alloc_new]
  have hbl : Own L s.S b := .inr (.inr (.inr (.inr (.inr (by rw [hrb]; simp)))))
  have hbs := H.lt b hbl
  have h1' := (hbW.block b hbs).trans h1
  have c0 : W.cell? ⟨b, 6 + i * 3, none⟩ = some (.bool y.p) := run_cell h1' (ru_get (up := upV bs) (fv := fv) hy (show 0 < 3 by decide))
  have c1 : W.cell? ⟨b, 6 + i * 3 + 1, none⟩ = some (.int .i64 y.a) := run_cell h1' (ru_get (up := upV bs) (fv := fv) hy (show 1 < 3 by decide))
  have c2 : W.cell? ⟨b, 6 + i * 3 + 2, none⟩ = some (.int .i64 y.n) := run_cell h1' (ru_get (up := upV bs) (fv := fv) hy (show 2 < 3 by decide))
  have cl := (Array.getElem?_eq_some_iff.1 h1').1
  obtain ⟨x0, x1, x2, x3, x4, xf, xl⟩ := cells5 hx
  have hne : w.heap.size ≠ b := Nat.ne_of_gt hbs
  have HT := Lib.hid (fun (w' : World) (m : Nat) => Turns.top (w' := w') (r' := { r with nx := m }) H hrs hrb rfl h3)
  have HT0 := Lib.hid (fun (w' : World) => Turns.top (w' := w') (r' := r) H hrs hrb rfl h3)
  have HLV := Lib.hid (show ∀ w', Below w.heap.size w w' → ∀ (k : Nat) (z : Int), x.l[k]? = some z → oal = some ⟨bl, ol, none⟩ ∧ w'.cell? ⟨bl, ol + k, none⟩ = some (.int .i64 z) from fun w' hb' k z hz => by
    have hk := (List.getElem?_eq_some_iff.1 hz).1
    obtain ⟨e1, e2⟩ := l3 (by omega)
    exact ⟨e1, (H.under hb').below.cell' _ _ (l4 k z hz)⟩)
  have HW := Lib.hid hbW
  have H1 := Lib.hid h1'
  have HX := Lib.hid hx
  have HG := Lib.hid hget
  have HOP := Lib.hid hop
  rw [hop, hi]
  clear l3 l4
  obtain ⟨B, hB⟩ : ∃ B, B = w.heap.size := ⟨_, rfl⟩
  go_enter Tryd.func59, Tryd.ntmps59
  go_upto_region 1 with fail
  rw [← hW]
  clear hW hbW hx h1' h1 h2 h4 h5 hi hop hy hget
  rw [← hB] at x0 x1 x2 x3 x4 xl hne HX
  simp only [← hB] at xf ⊢
  replace hB := Lib.hid hB
  go_region
  have hb5 : Below W.heap.size W (W.alloc (.cells #[.bool y.p, .int .i64 y.a, .int .i64 y.n] 38)).drew := (C.alloc_below W _).drew
  have hx5 := (hb5.block B xl).trans HX.out
  have h15 := (hb5.block b cl).trans H1.out
  have hy5 : (W.alloc (.cells #[.bool y.p, .int .i64 y.a, .int .i64 y.n] 38)).drew.heap[W.heap.size]? = some (.cells #[.bool y.p, .int .i64 y.a, .int .i64 y.n] 38) := heap_alloc_new W _
  have hBW5 := HW.out.trans (hb5.mono HW.out.size)
  clear x0 x1 x2 x3 x4 xf xl c0 c1 c2 cl hb5
  generalize (W.alloc (.cells #[.bool y.p, .int .i64 y.a, .int .i64 y.n] 38)).drew = W5 at hx5 h15 hy5 hBW5 ⊢
  generalize W.heap.size = b5 at hy5 ⊢
  obtain ⟨x0, x1, x2, x3, x4, xf, xl⟩ := cells5 hx5
  obtain ⟨y0, y1, y2, yf, yl⟩ := cells3 hy5
  have hnum := Lib.hid (numbers_any (W5.alloc (.cells #[.bool y.p, .int .i64 y.a, .int .i64 y.n] 38)) W5.heap.size [y] (by simp) (ws_one W5 y _ rfl) (by simp))
  have HX5 := Lib.hid hx5
  have H15 := Lib.hid h15
  have HY5 := Lib.hid hy5
  have HBW5 := Lib.hid hBW5
  clear hx5 h15 hy5 hBW5
  go_upto_region 6 with (go_at_call 46; refine hnum.out.mono ?_; rintro e w6 ⟨rfl, hb6⟩; have HB6 := Lib.hid (show Below W5.heap.size W5 w6 from C.box_below hb6); clear hb6)
  rw [numL_one]
  have hx6 := (HB6.out.block B xl).trans HX5.out
  have h16 := (HB6.out.block b (Array.getElem?_eq_some_iff.1 H15.out).1).trans H15.out
  have hy6 := (HB6.out.block b5 yl).trans HY5.out
  have HBW6 := Lib.hid (HBW5.out.trans (HB6.out.mono HBW5.out.size))
  clear x0 x1 x2 x3 x4 xf xl y0 y1 y2 yf yl
  obtain ⟨x0, x1, x2, x3, x4, xf, xl⟩ := cells5 hx6
  obtain ⟨y0, y1, y2, yf, yl⟩ := cells3 hy6
  have c3 := run_cell h16 (ru_next (up := upV bs) (fv := fv) (r := r))
  have cf : ∀ q, w6.frozen? ⟨b, q, none⟩ = false := fun q => by simp [World.frozen?, h16]
  have HF := Lib.hid (show ∀ m : Nat, Turns w0 w (w6.setCell ⟨b, 2, none⟩ (.int .i64 m)) L c s { s with rs := { r with nx := m } :: rs } from fun m => HT.out (w6.setCell ⟨b, 2, none⟩ (.int .i64 m)) m HBW6.out.os HBW6.out.tape HBW6.out.output (by have := HBW6.out.size; simp [World.setCell]; omega)
    (fun q hq hl => (Below.heap_setCell _ _ _ _ hq).trans (HBW6.out.block q hl)) (fun fv' hf' => by
      have e1 := (HBW6.out.block b hbs).trans hf'
      rw [heap_setCell_same w6 b 2 _ 120 _ e1, ru_set_next]))
  have HF0 := Lib.hid (show Turns w0 w w6 L c s { s with rs := r :: rs } from HT0.out w6 HBW6.out.os HBW6.out.tape HBW6.out.output HBW6.out.size (fun q _ hl => HBW6.out.block q hl) (fun fv' hf' => (HBW6.out.block b hbs).trans hf'))
  clear hx6 h16 hy6
  cases hp : y.p with
  | true =>
    have hs : Hid (turnR r x = (11, r)) := Lib.hid (by rw [turnR, HOP.out, if_neg (by decide), HG.out, numE, hp]; rfl)
    rw [hp] at y0
    rw [numE, hp]
    clear hp
    go_wp2
    go_ret
    exact ⟨by rw [hs.out]; rfl, by rw [hs.out]; exact HF0.out⟩
  | false =>
    have hnE : numE y = 0 := by rw [numE, hp]; rfl
    rw [hnE]
    by_cases hn : y.n = 0
    · have hs : Hid (turnR r x = (0, r)) := Lib.hid (by rw [turnR, HOP.out, if_neg (by decide), HG.out, hnE, if_neg (by decide), if_pos rfl, if_neg (by simp [hn])])
      have t1 : (y.n != 0) = false := by simp [hn]
      rw [hp] at y0
      clear hp hnE hn
      go_wp2
      go_ret
      exact ⟨by rw [hs.out]; rfl, by rw [hs.out]; exact HF0.out⟩
    · obtain ⟨z, hz⟩ : ∃ z, x.l[0]? = some z := ⟨_, List.getElem?_eq_getElem hl⟩
      have hz0 := hl0 z (List.mem_of_getElem? hz)
      obtain ⟨m, rfl⟩ : ∃ m : Nat, z = m := ⟨z.toNat, by omega⟩
      have hlab : In.lab x 0 = m := by simp [In.lab, List.getD_eq_getElem?_getD, hz]
      have hs : Hid (turnR r x = (0, { r with nx := m })) := Lib.hid (by rw [turnR, HOP.out, if_neg (by decide), HG.out, hnE, if_neg (by decide), if_pos rfl, if_pos hn, hlab])
      obtain ⟨rfl, k0⟩ := HLV.out w6 HBW6.out 0 _ hz
      rw [Nat.add_zero] at k0
      have t1 : (y.n != 0) = true := by simpa using hn
      rw [hp] at y0
      have hff := Lib.hid (HF.out m)
      clear hp hnE hn hz hlab
      go_wp2
      go_ret
      exact ⟨by rw [hs.out]; rfl, by rw [hs.out]; exact hff.out⟩


set_option maxRecDepth 100000 in
set_option maxHeartbeats 2000000 in
theorem table_any {w0 w : World} {L : Ly} {c : Cx} {s : Se} {r : Ru} {rs : List Ru} {b : Nat} {bs : List Nat} (H : SesAt w0 w L c s) (hrs : s.rs = r :: rs) (hrb : L.rb = b :: bs) (x : In) (lv : Value) (hlv : C.IntsV w0 lv x.l) (hop : x.op = 15) (hA : 0 ≤ x.a ∧ x.a < 16) (hl0 : ∀ z ∈ x.l, 0 ≤ z) :
    Calls Tryd.prog 59 #[.pointer (some ⟨b, 0, none⟩), .agg #[.int .i64 x.op, .int .i64 x.a, .int .i64 x.b, .int .i64 x.c, lv]] w fun e w' => e = .returned (.int .i64 (turnR r x).1) ∧ Turns w0 w w' L c s { s with rs := (turnR r x).2 :: rs } := by
  obtain ⟨oal, capl, bl, ol, rfl, -, -, l3, l4⟩ := hlv
  obtain ⟨i, hi⟩ : ∃ i : Nat, x.a = i := ⟨x.a.toNat, by omega⟩
  have hi16 : i < 16 := by omega
  have hi17 : (i : Int) < 16 := by omega
  have hrun := H.runs
  rw [hrs, hrb] at hrun
  obtain ⟨⟨fv, h1, h2⟩, h3, h4, h5⟩ := hrun
  obtain ⟨y, hy⟩ : ∃ y, r.rg[i]? = some y := ⟨_, List.getElem?_eq_getElem (by omega)⟩
  have hget : r.get x.a = y := by rw [hi]; simp [Ru.get, List.getD_eq_getElem?_getD, hy]
  obtain ⟨W, hW⟩ : ∃ W, W = w.alloc (.cells #[.int .i64 15, .int .i64 i, .int .i64 x.b, .int .i64 x.c, .slice oal x.l.length capl] 84) := ⟨_, rfl⟩
  have hbW : Below w.heap.size w W := by rw [hW]; exact C.alloc_below _ _
  have hx : W.heap[w.heap.size]? = some (.cells #[.int .i64 15, .int .i64 i, .int .i64 x.b, .int .i64 x.c, .slice oal x.l.length capl] 84) := by rw [hW, heap_alloc_new]
  have hbl : Own L s.S b := .inr (.inr (.inr (.inr (.inr (by rw [hrb]; simp)))))
  have hbs := H.lt b hbl
  have h1' := (hbW.block b hbs).trans h1
  have c0 : W.cell? ⟨b, 6 + i * 3, none⟩ = some (.bool y.p) := run_cell h1' (ru_get (up := upV bs) (fv := fv) hy (show 0 < 3 by decide))
  have c1 : W.cell? ⟨b, 6 + i * 3 + 1, none⟩ = some (.int .i64 y.a) := run_cell h1' (ru_get (up := upV bs) (fv := fv) hy (show 1 < 3 by decide))
  have c2 : W.cell? ⟨b, 6 + i * 3 + 2, none⟩ = some (.int .i64 y.n) := run_cell h1' (ru_get (up := upV bs) (fv := fv) hy (show 2 < 3 by decide))
  have cl := (Array.getElem?_eq_some_iff.1 h1').1
  obtain ⟨x0, x1, x2, x3, x4, xf, xl⟩ := cells5 hx
  have hne : w.heap.size ≠ b := Nat.ne_of_gt hbs
  have HT := Lib.hid (fun (w' : World) (m : Nat) => Turns.top (w' := w') (r' := { r with nx := m }) H hrs hrb rfl h3)
  have HT0 := Lib.hid (fun (w' : World) => Turns.top (w' := w') (r' := r) H hrs hrb rfl h3)
  have HLV := Lib.hid (show ∀ w', Below w.heap.size w w' → ∀ (k : Nat) (z : Int), x.l[k]? = some z → oal = some ⟨bl, ol, none⟩ ∧ w'.cell? ⟨bl, ol + k, none⟩ = some (.int .i64 z) from fun w' hb' k z hz => by
    have hk := (List.getElem?_eq_some_iff.1 hz).1
    obtain ⟨e1, e2⟩ := l3 (by omega)
    exact ⟨e1, (H.under hb').below.cell' _ _ (l4 k z hz)⟩)
  have HW := Lib.hid hbW
  have H1 := Lib.hid h1'
  have HX := Lib.hid hx
  have HG := Lib.hid hget
  have HOP := Lib.hid hop
  rw [hop, hi]
  clear l3 l4
  obtain ⟨B, hB⟩ : ∃ B, B = w.heap.size := ⟨_, rfl⟩
  go_enter Tryd.func59, Tryd.ntmps59
  go_upto_region 1 with fail
  rw [← hW]
  clear hW hbW hx h1' h1 h2 h4 h5 hi hop hy hget
  rw [← hB] at x0 x1 x2 x3 x4 xl hne HX
  simp only [← hB] at xf ⊢
  replace hB := Lib.hid hB
  go_region
  have hb5 : Below W.heap.size W (W.alloc (.cells #[.bool y.p, .int .i64 y.a, .int .i64 y.n] 38)).drew := (C.alloc_below W _).drew
  have hx5 := (hb5.block B xl).trans HX.out
  have h15 := (hb5.block b cl).trans H1.out
  have hy5 : (W.alloc (.cells #[.bool y.p, .int .i64 y.a, .int .i64 y.n] 38)).drew.heap[W.heap.size]? = some (.cells #[.bool y.p, .int .i64 y.a, .int .i64 y.n] 38) := heap_alloc_new W _
  have hBW5 := HW.out.trans (hb5.mono HW.out.size)
  clear x0 x1 x2 x3 x4 xf xl c0 c1 c2 cl hb5
  generalize (W.alloc (.cells #[.bool y.p, .int .i64 y.a, .int .i64 y.n] 38)).drew = W5 at hx5 h15 hy5 hBW5 ⊢
  generalize W.heap.size = b5 at hy5 ⊢
  obtain ⟨x0, x1, x2, x3, x4, xf, xl⟩ := cells5 hx5
  obtain ⟨y0, y1, y2, yf, yl⟩ := cells3 hy5
  have hnum := Lib.hid (numbers_any (W5.alloc (.cells #[.bool y.p, .int .i64 y.a, .int .i64 y.n] 38)) W5.heap.size [y] (by simp) (ws_one W5 y _ rfl) (by simp))
  have HX5 := Lib.hid hx5
  have H15 := Lib.hid h15
  have HY5 := Lib.hid hy5
  have HBW5 := Lib.hid hBW5
  clear hx5 h15 hy5 hBW5
  go_upto_region 6 with (go_at_call 46; refine hnum.out.mono ?_; rintro e w6 ⟨rfl, hb6⟩; have HB6 := Lib.hid (show Below W5.heap.size W5 w6 from C.box_below hb6); clear hb6)
  rw [numL_one]
  have hx6 := (HB6.out.block B xl).trans HX5.out
  have h16 := (HB6.out.block b (Array.getElem?_eq_some_iff.1 H15.out).1).trans H15.out
  have hy6 := (HB6.out.block b5 yl).trans HY5.out
  have HBW6 := Lib.hid (HBW5.out.trans (HB6.out.mono HBW5.out.size))
  clear x0 x1 x2 x3 x4 xf xl y0 y1 y2 yf yl
  obtain ⟨x0, x1, x2, x3, x4, xf, xl⟩ := cells5 hx6
  obtain ⟨y0, y1, y2, yf, yl⟩ := cells3 hy6
  have c3 := run_cell h16 (ru_next (up := upV bs) (fv := fv) (r := r))
  have cf : ∀ q, w6.frozen? ⟨b, q, none⟩ = false := fun q => by simp [World.frozen?, h16]
  have HF := Lib.hid (show ∀ m : Nat, Turns w0 w (w6.setCell ⟨b, 2, none⟩ (.int .i64 m)) L c s { s with rs := { r with nx := m } :: rs } from fun m => HT.out (w6.setCell ⟨b, 2, none⟩ (.int .i64 m)) m HBW6.out.os HBW6.out.tape HBW6.out.output (by have := HBW6.out.size; simp [World.setCell]; omega)
    (fun q hq hl => (Below.heap_setCell _ _ _ _ hq).trans (HBW6.out.block q hl)) (fun fv' hf' => by
      have e1 := (HBW6.out.block b hbs).trans hf'
      rw [heap_setCell_same w6 b 2 _ 120 _ e1, ru_set_next]))
  have HF0 := Lib.hid (show Turns w0 w w6 L c s { s with rs := r :: rs } from HT0.out w6 HBW6.out.os HBW6.out.tape HBW6.out.output HBW6.out.size (fun q _ hl => HBW6.out.block q hl) (fun fv' hf' => (HBW6.out.block b hbs).trans hf'))
  clear hx6 h16 hy6
  cases hp : y.p with
  | true =>
    have hs : Hid (turnR r x = (11, r)) := Lib.hid (by rw [turnR, HOP.out, if_neg (by decide), HG.out, numE, hp]; rfl)
    rw [hp] at y0
    rw [numE, hp]
    clear hp
    go_wp2
    go_ret
    exact ⟨by rw [hs.out]; rfl, by rw [hs.out]; exact HF0.out⟩
  | false =>
    have hnE : numE y = 0 := by rw [numE, hp]; rfl
    rw [hnE]
    rw [hp] at y0
    clear hp
    by_cases hn : y.n < 0
    · have hs : Hid (turnR r x = (31, r)) := Lib.hid (by rw [turnR, HOP.out, if_neg (by decide), HG.out, hnE, if_neg (by decide), if_neg (by decide), if_pos (.inl hn)])
      have t1 : decide (y.n < 0) = true := by simpa using hn
      clear hnE
      go_wp2
      go_ret
      exact ⟨by rw [hs.out]; rfl, by rw [hs.out]; exact HF0.out⟩
    · have t1 : decide (y.n < 0) = false := by simpa using hn
      by_cases hn2 : (x.l.length : Int) ≤ y.n
      · have hs : Hid (turnR r x = (31, r)) := Lib.hid (by rw [turnR, HOP.out, if_neg (by decide), HG.out, hnE, if_neg (by decide), if_neg (by decide), if_pos (.inr hn2)])
        have t2 : decide (y.n ≥ (x.l.length : Int)) = true := by simpa using hn2
        clear hnE
        go_wp2
        go_ret
        exact ⟨by rw [hs.out]; rfl, by rw [hs.out]; exact HF0.out⟩
      · obtain ⟨k, hk⟩ : ∃ k : Nat, y.n = k := ⟨y.n.toNat, by omega⟩
        have hkl : k < x.l.length := by omega
        obtain ⟨z, hz⟩ : ∃ z, x.l[k]? = some z := ⟨_, List.getElem?_eq_getElem hkl⟩
        have hz0 := hl0 z (List.mem_of_getElem? hz)
        obtain ⟨m, rfl⟩ : ∃ m : Nat, z = m := ⟨z.toNat, by omega⟩
        have hlab : In.lab x y.n = m := by rw [hk]; simp [In.lab, List.getD_eq_getElem?_getD, hz]
        have hs : Hid (turnR r x = (0, { r with nx := m })) := Lib.hid (by rw [turnR, HOP.out, if_neg (by decide), HG.out, hnE, if_neg (by decide), if_neg (by decide), if_neg (by rintro (h | h); exact hn h; exact hn2 h), hlab])
        obtain ⟨rfl, k0⟩ := HLV.out w6 HBW6.out k _ hz
        have hki : (k : Int) < x.l.length := by omega
        have hff := Lib.hid (HF.out m)
        rw [hk] at y2
        clear hnE hn hn2 t1 hz hlab hk
        go_wp2
        go_ret
        exact ⟨by rw [hs.out]; rfl, by rw [hs.out]; exact hff.out⟩

end Go.Proofs.YtgpkhdccchpljaaDoor
