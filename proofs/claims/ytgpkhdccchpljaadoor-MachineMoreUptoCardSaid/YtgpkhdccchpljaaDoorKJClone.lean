/-
  Several texts of the proof in one: KReckon, KKit, KClone. No conditions of their own: each lemma states its own.
-/
import Derived.Test.YtgpkhdccchpljaaDoorKJTable
import Derived.Lib.SliceRun
namespace Go.Proofs.YtgpkhdccchpljaaDoor
open Go.RowKit
open M (Wd MS RepAt Owned Kept Turned)
open C (In)

theorem keepB7 {w w' : World} {k : Nat} {o : Obj} (h : w.heap[k]? = some o) (hb : Below w.heap.size w w') : w'.heap[k]? = some o := (hb.block _ (Array.getElem?_eq_some_iff.1 h).1).trans h

def reckO (r : Ru) (x : In) : Out × Ru :=
  if numE2 (r.get x.b) (r.get x.c) ≠ 0 then (stopO (numE2 (r.get x.b) (r.get x.c)), r)
  else if (reckR x.op (r.get x.b).n (r.get x.c).n).2 then (on, r.put x.a (nm (reckR x.op (r.get x.b).n (r.get x.c).n).1))
  else (on, { r with nx := In.lab x 0 })

theorem ws_two (W : World) (x y : Wd) (g : Nat) (hg : g = W.heap.size) : WsAt (W.alloc (.cells #[.bool x.p, .int .i64 x.a, .int .i64 x.n, .bool y.p, .int .i64 y.a, .int .i64 y.n] 38)) g [x, y] := fun i z hz => by
  subst hg
  match i with
  | 0 =>
    simp at hz; subst hz
    exact ⟨C.alloc_cell _ _ _ _ _ rfl, C.alloc_cell _ _ _ _ _ rfl, C.alloc_cell _ _ _ _ _ rfl⟩
  | 1 =>
    simp at hz; subst hz
    exact ⟨C.alloc_cell _ _ _ _ _ rfl, C.alloc_cell _ _ _ _ _ rfl, C.alloc_cell _ _ _ _ _ rfl⟩
  | i + 2 => simp at hz
theorem numL_two (x y : Wd) : numL [x, y] = numE2 x y := by
  unfold numL numE2
  simp

set_option maxRecDepth 100000 in
set_option maxHeartbeats 4000000 in
theorem reckon_any {w0 w : World} {L : Ly} {c : Cx} {s : Se} {r : Ru} {rs : List Ru} {b : Nat} {bs : List Nat} (H : SesAt w0 w L c s) (hrs : s.rs = r :: rs) (hrb : L.rb = b :: bs) (x : In) (lv : Value) (hlv : C.IntsV w0 lv x.l) (hA : 0 ≤ x.a ∧ x.a < 16) (hB : 0 ≤ x.b ∧ x.b < 16) (hC : 0 ≤ x.c ∧ x.c < 16)
    (hl : ∀ u v, (reckR x.op u v).2 = false → 0 < x.l.length) (hl0 : ∀ z ∈ x.l, 0 ≤ z) :
    Calls Tryd.prog 58 #[.pointer (some ⟨b, 0, none⟩), .agg #[.int .i64 x.op, .int .i64 x.a, .int .i64 x.b, .int .i64 x.c, lv]] w fun e w' => e = .returned (outV (reckO r x).1) ∧ Turns w0 w w' L c s { s with rs := (reckO r x).2 :: rs } := by
  obtain ⟨oal, capl, bl, ol, rfl, -, -, l3, l4⟩ := hlv
  obtain ⟨i, hi⟩ : ∃ i : Nat, x.a = i := ⟨x.a.toNat, by omega⟩
  obtain ⟨ib, hib⟩ : ∃ i : Nat, x.b = i := ⟨x.b.toNat, by omega⟩
  obtain ⟨ic, hic⟩ : ∃ i : Nat, x.c = i := ⟨x.c.toNat, by omega⟩
  have hi16 : i < 16 := by omega
  have hi17 : (i : Int) < 16 := by omega
  have hb17 : (ib : Int) < 16 := by omega
  have hc17 : (ic : Int) < 16 := by omega
  have hrun := H.runs
  rw [hrs, hrb] at hrun
  obtain ⟨⟨fv, h1, h2⟩, h3, h4, h5⟩ := hrun
  obtain ⟨y, hy⟩ : ∃ y, r.rg[ib]? = some y := ⟨_, List.getElem?_eq_getElem (by omega)⟩
  obtain ⟨z, hz⟩ : ∃ z, r.rg[ic]? = some z := ⟨_, List.getElem?_eq_getElem (by omega)⟩
  have hget : r.get x.b = y := by rw [hib]; simp [Ru.get, List.getD_eq_getElem?_getD, hy]
  have hgez : r.get x.c = z := by rw [hic]; simp [Ru.get, List.getD_eq_getElem?_getD, hz]
  obtain ⟨op, hop⟩ : ∃ op, op = x.op := ⟨_, rfl⟩
  obtain ⟨W, hW⟩ : ∃ W, W = (w.alloc (.cells #[.int .i64 op, .int .i64 i, .int .i64 ib, .int .i64 ic, .slice oal x.l.length capl] 84)).alloc (.cells #[.int .i64 0, .int .i64 0] 41) := ⟨_, rfl⟩
  have hbW : Below w.heap.size w W := by rw [hW]; exact (C.alloc_below _ _).alloc (by simp) _
  have hx : W.heap[w.heap.size]? = some (.cells #[.int .i64 op, .int .i64 i, .int .i64 ib, .int .i64 ic, .slice oal x.l.length capl] 84) := by rw [hW, Below.heap_alloc _ _ _ (by simp), heap_alloc_new]
  have hr : W.heap[w.heap.size + 1]? = some (.cells #[.int .i64 0, .int .i64 0] 41) := by
    have := heap_alloc_new (w.alloc (.cells #[.int .i64 op, .int .i64 i, .int .i64 ib, .int .i64 ic, .slice oal x.l.length capl] 84)) (.cells #[.int .i64 0, .int .i64 0] 41)
    rw [hW]; simpa using this
  have hbl : Own L s.S b := .inr (.inr (.inr (.inr (.inr (by rw [hrb]; simp)))))
  have hbs := H.lt b hbl
  have h1' := (hbW.block b hbs).trans h1
  have c0 : W.cell? ⟨b, 6 + ib * 3, none⟩ = some (.bool y.p) := run_cell h1' (ru_get (up := upV bs) (fv := fv) hy (show 0 < 3 by decide))
  have c1 : W.cell? ⟨b, 6 + ib * 3 + 1, none⟩ = some (.int .i64 y.a) := run_cell h1' (ru_get (up := upV bs) (fv := fv) hy (show 1 < 3 by decide))
  have c2 : W.cell? ⟨b, 6 + ib * 3 + 2, none⟩ = some (.int .i64 y.n) := run_cell h1' (ru_get (up := upV bs) (fv := fv) hy (show 2 < 3 by decide))
  have d0 : W.cell? ⟨b, 6 + ic * 3, none⟩ = some (.bool z.p) := run_cell h1' (ru_get (up := upV bs) (fv := fv) hz (show 0 < 3 by decide))
  have d1 : W.cell? ⟨b, 6 + ic * 3 + 1, none⟩ = some (.int .i64 z.a) := run_cell h1' (ru_get (up := upV bs) (fv := fv) hz (show 1 < 3 by decide))
  have d2 : W.cell? ⟨b, 6 + ic * 3 + 2, none⟩ = some (.int .i64 z.n) := run_cell h1' (ru_get (up := upV bs) (fv := fv) hz (show 2 < 3 by decide))
  have cl := (Array.getElem?_eq_some_iff.1 h1').1
  obtain ⟨x0, x1, x2, x3, x4, xf, xl⟩ := cells5 hx
  have hne : w.heap.size ≠ b := Nat.ne_of_gt hbs
  have hne2 : w.heap.size + 1 ≠ b := by omega
  have hw00 := H.below.size
  have HT := Lib.hid (fun (w' : World) (r' : Ru) => Turns.top (w' := w') (r' := r') H hrs hrb)
  have HLV := Lib.hid (show ∀ w', Below w.heap.size w w' → ∀ (k : Nat) (z : Int), x.l[k]? = some z → oal = some ⟨bl, ol, none⟩ ∧ w'.cell? ⟨bl, ol + k, none⟩ = some (.int .i64 z) from fun w' hb' k z hz => by
    have hk := (List.getElem?_eq_some_iff.1 hz).1
    obtain ⟨e1, e2⟩ := l3 (by omega)
    exact ⟨e1, (H.under hb').below.cell' _ _ (l4 k z hz)⟩)
  have HW := Lib.hid hbW
  have H1 := Lib.hid h1'
  have HX := Lib.hid hx
  have HR := Lib.hid hr
  have HG := Lib.hid hget
  have HGZ := Lib.hid hgez
  have HOP := Lib.hid hop
  have H3 := Lib.hid h3
  have HI := Lib.hid hi
  rw [← hop, hi, hib, hic]
  clear l3 l4 hop hi hib hic
  obtain ⟨B, hBB⟩ : ∃ B, B = w.heap.size := ⟨_, rfl⟩
  go_enter Tryd.func58, Tryd.ntmps58
  go_upto_region 1 with fail
  rw [← hW]
  clear hW hbW hx hr h1' h1 h2 h3 h4 h5 hy hz hget hgez
  rw [← hBB] at x0 x1 x2 x3 x4 xl hne hne2 HX HR
  simp only [← hBB] at xf ⊢
  replace hBB := Lib.hid hBB
  go_cut [5, 6] (fun s5 s6 wc => ∃ b5 b6, s5 = .pointer (some ⟨b5, 0, none⟩) ∧ s6 = .pointer (some ⟨b6, 0, none⟩) ∧ wc.heap[b5]? = some (.cells #[.bool y.p, .int .i64 y.a, .int .i64 y.n] 38) ∧ wc.heap[b6]? = some (.cells #[.bool z.p, .int .i64 z.a, .int .i64 z.n] 38) ∧ Below W.heap.size W wc)
  case first =>
    have hxx := Lib.hid (show ∀ u v : Wd, Below W.heap.size W ((W.alloc (.cells #[.bool u.p, .int .i64 u.a, .int .i64 u.n] 38)).alloc (.cells #[.bool v.p, .int .i64 v.a, .int .i64 v.n] 38)).drew ∧ ((W.alloc (.cells #[.bool u.p, .int .i64 u.a, .int .i64 u.n] 38)).alloc (.cells #[.bool v.p, .int .i64 v.a, .int .i64 v.n] 38)).drew.heap[W.heap.size]? = some (.cells #[.bool u.p, .int .i64 u.a, .int .i64 u.n] 38) ∧ ((W.alloc (.cells #[.bool u.p, .int .i64 u.a, .int .i64 u.n] 38)).alloc (.cells #[.bool v.p, .int .i64 v.a, .int .i64 v.n] 38)).drew.heap[W.heap.size + 1]? = some (.cells #[.bool v.p, .int .i64 v.a, .int .i64 v.n] 38) from fun u v => by
      refine ⟨((C.alloc_below W _).alloc (by simp) _).drew, ?_, ?_⟩
      · exact (Below.heap_alloc _ _ _ (by simp)).trans (heap_alloc_new W _)
      · have := heap_alloc_new (W.alloc (.cells #[.bool u.p, .int .i64 u.a, .int .i64 u.n] 38)) (.cells #[.bool v.p, .int .i64 v.a, .int .i64 v.n] 38)
        rw [show (W.alloc (.cells #[.bool u.p, .int .i64 u.a, .int .i64 u.n] 38)).heap.size = W.heap.size + 1 by simp] at this
        exact this)
    go_region
    all_goals (go_wp2_with fail; go_meet)
    all_goals first
      | exact ⟨_, _, rfl, rfl, (hxx.out y z).2.1, (hxx.out y z).2.2, (hxx.out y z).1⟩
      | exact ⟨_, _, rfl, rfl, (hxx.out z y).2.2, (hxx.out z y).2.1, (hxx.out z y).1⟩
  case rest =>
    obtain ⟨b5, b6, rfl, rfl, hy5, hz5, hb5⟩ := hcut
    have hx5 := (hb5.block B xl).trans HX.out
    have h15 := (hb5.block b cl).trans H1.out
    have hr5 := (hb5.block (B + 1) (Array.getElem?_eq_some_iff.1 HR.out).1).trans HR.out
    have hBW5 := HW.out.trans (hb5.mono HW.out.size)
    clear x0 x1 x2 x3 x4 xf xl c0 c1 c2 d0 d1 d2 cl hb5
    obtain ⟨y0, y1, y2, yf, yl⟩ := cells3 hy5
    obtain ⟨z0, z1, z2, zf, zl⟩ := cells3 hz5
    have hnum := Lib.hid (numbers_any (wc.alloc (.cells #[.bool y.p, .int .i64 y.a, .int .i64 y.n, .bool z.p, .int .i64 z.a, .int .i64 z.n] 38)) wc.heap.size [y, z] (by simp) (ws_two wc y z _ rfl) (by simp))
    have HX5 := Lib.hid hx5
    have H15 := Lib.hid h15
    have HY5 := Lib.hid hy5
    have HZ5 := Lib.hid hz5
    have HR5 := Lib.hid hr5
    have HBW5 := Lib.hid hBW5
    clear hx5 h15 hy5 hz5 hr5 hBW5
    go_upto_region 3 with (go_at_call 46; refine hnum.out.mono ?_; rintro e w6 ⟨rfl, hb6⟩; have HB6 := Lib.hid (show Below wc.heap.size wc w6 from C.box_below hb6); clear hb6)
    rw [numL_two]
    have HX6 := Lib.hid ((HB6.out.block B (Array.getElem?_eq_some_iff.1 HX5.out).1).trans HX5.out)
    have H16 := Lib.hid ((HB6.out.block b (Array.getElem?_eq_some_iff.1 H15.out).1).trans H15.out)
    have hy6 := (HB6.out.block b5 yl).trans HY5.out
    have hz6 := (HB6.out.block b6 zl).trans HZ5.out
    have HR6 := Lib.hid ((HB6.out.block (B + 1) (Array.getElem?_eq_some_iff.1 HR5.out).1).trans HR5.out)
    have HBW6 := Lib.hid (HBW5.out.trans (HB6.out.mono HBW5.out.size))
    clear y0 y1 y2 yf yl z0 z1 z2 zf zl
    obtain ⟨y0, y1, y2, yf, yl⟩ := cells3 hy6
    obtain ⟨z0, z1, z2, zf, zl⟩ := cells3 hz6
    obtain ⟨x0, x1, x2, x3, x4, xf, xl⟩ := cells5 HX6.out
    obtain ⟨r0, r1, rf, rl⟩ := cells2 HR6.out
    clear hy6 hz6
    have HT0 := Lib.hid (show Turns w0 w w6 L c s { s with rs := r :: rs } from HT.out w6 r rfl H3.out HBW6.out.os HBW6.out.tape HBW6.out.output HBW6.out.size (fun q _ hl => HBW6.out.block q hl) (fun fv' hf' => (HBW6.out.block b hbs).trans hf'))
    have hBw : w.heap.size ≤ B + 1 := by have := hBB.out; omega
    by_cases hE : numE2 y z = 0
    · have t0 : (numE2 y z != 0) = false := by simp [hE]
      obtain ⟨q, ex, hq⟩ : ∃ q ex, reckR x.op y.n z.n = (q, ex) := ⟨_, _, rfl⟩
      have hrk := reckoned_any op y.n z.n
      rw [HOP.out, hq] at hrk
      rw [← HOP.out] at hrk
      replace hrk := Lib.hid hrk
      have HQ := Lib.hid hq
      have HE := Lib.hid hE
      clear hE hq
      have hE' := HE.out
      cases ex with
      | true =>
        have hs : Hid (reckO r x = (on, r.put x.a (nm q))) := Lib.hid (by rw [reckO, HG.out, HGZ.out, if_neg (by simp [HE.out]), HQ.out, if_pos rfl])
        obtain ⟨v, hv⟩ : ∃ v, r.rg[i]? = some v := ⟨_, List.getElem?_eq_getElem (by rw [H3.out]; exact hi16)⟩
        have e0 : w6.cell? ⟨b, 6 + i * 3, none⟩ = some (.bool v.p) := run_cell H16.out (ru_get (up := upV bs) (fv := fv) hv (show 0 < 3 by decide))
        have e1 : w6.cell? ⟨b, 6 + i * 3 + 1, none⟩ = some (.int .i64 v.a) := run_cell H16.out (ru_get (up := upV bs) (fv := fv) hv (show 1 < 3 by decide))
        have e2 : w6.cell? ⟨b, 6 + i * 3 + 2, none⟩ = some (.int .i64 v.n) := run_cell H16.out (ru_get (up := upV bs) (fv := fv) hv (show 2 < 3 by decide))
        have cf : ∀ q, w6.frozen? ⟨b, q, none⟩ = false := fun q => by have := H16.out; simp [World.frozen?, this]
        have hput : Hid (∀ fv' : Value, w6.heap[b]? = some (.cells (ruC (upV bs) fv' r).toArray 120) → (((w6.setCell ⟨b, 6 + i * 3, none⟩ (.bool false)).setCell ⟨b, 6 + i * 3 + 1, none⟩ (.int .i64 0)).setCell ⟨b, 6 + i * 3 + 2, none⟩ (.int .i64 q)).heap[b]? = some (.cells (ruC (upV bs) fv' (r.put x.a (nm q))).toArray 120)) := Lib.hid fun fv' hf' => by
          have g1 := heap_setCell_same w6 b (6 + i * 3) _ 120 (.bool false) hf'
          have g2 := heap_setCell_same _ b (6 + i * 3 + 1) _ 120 (.int .i64 0) g1
          have g3 := heap_setCell_same _ b (6 + i * 3 + 2) _ 120 (.int .i64 q) g2
          have g4 := ru_put (upV bs) fv' r i (nm q) (by rw [H3.out]; exact hi16)
          simp only [nm] at g4
          rw [g3, g4, Ru.put, HI.out, Int.toNat_natCast]
          rfl
        have hTP := Lib.hid (show Turns w0 w (((w6.setCell ⟨b, 6 + i * 3, none⟩ (.bool false)).setCell ⟨b, 6 + i * 3 + 1, none⟩ (.int .i64 0)).setCell ⟨b, 6 + i * 3 + 2, none⟩ (.int .i64 q)).drew L c s { s with rs := r.put x.a (nm q) :: rs } from
          HT.out _ (r.put x.a (nm q)) rfl (by simp [Ru.put, H3.out]) HBW6.out.os HBW6.out.tape HBW6.out.output (by have := HBW6.out.size; simp [World.setCell, World.drew]; omega)
            (fun q hq hl => by
              show ((((w6.setCell ⟨b, 6 + i * 3, none⟩ _).setCell ⟨b, 6 + i * 3 + 1, none⟩ _).setCell ⟨b, 6 + i * 3 + 2, none⟩ _)).heap[q]? = _
              rw [Below.heap_setCell _ _ _ _ hq, Below.heap_setCell _ _ _ _ hq, Below.heap_setCell _ _ _ _ hq]; exact HBW6.out.block q hl)
            (fun fv' hf' => hput.out fv' ((HBW6.out.block b hbs).trans hf')))
        go_upto_region 7 with (go_at_call 80; refine (hrk.out _).mono ?_; rintro e w7 ⟨rfl, rfl⟩)
        go_region
        have hrr : (((w7.setCell ⟨b, 6 + i * 3, none⟩ (.bool false)).setCell ⟨b, 6 + i * 3 + 1, none⟩ (.int .i64 0)).setCell ⟨b, 6 + i * 3 + 2, none⟩ (.int .i64 q)).drew.heap[B + 1]? = some (.cells #[.int .i64 0, .int .i64 0] 41) := by
          show ((((w7.setCell ⟨b, 6 + i * 3, none⟩ _).setCell ⟨b, 6 + i * 3 + 1, none⟩ _).setCell ⟨b, 6 + i * 3 + 2, none⟩ _)).heap[B + 1]? = _
          rw [Below.heap_setCell _ _ _ _ hne2, Below.heap_setCell _ _ _ _ hne2, Below.heap_setCell _ _ _ _ hne2]; exact HR6.out
        have hTW := hTP.out
        clear r0 r1 rf rl x0 x1 x2 x3 x4 xf xl y0 y1 y2 yf yl z0 z1 z2 zf zl e0 e1 e2 cf hTP
        generalize (((w7.setCell ⟨b, 6 + i * 3, none⟩ (.bool false)).setCell ⟨b, 6 + i * 3 + 1, none⟩ (.int .i64 0)).setCell ⟨b, 6 + i * 3 + 2, none⟩ (.int .i64 q)).drew = WW at hrr hTW ⊢
        have hfz := Lib.hid (set2 (u0 := .int .i64 (-1)) (u1 := .int .i64 0) hrr)
        have hfin := Lib.hid ((hTW.cell hw00 (t := 41) (by unfold Loc; decide) hrr hBw 0 (.int .i64 (-1))).cell hw00 (t := 41) (by unfold Loc; decide) (heap_setCell_same _ (B + 1) 0 _ 41 (.int .i64 (-1)) hrr) hBw 1 (.int .i64 0))
        obtain ⟨r0, r1, rf, rl⟩ := cells2 hrr
        clear hrr hTW
        go_wp2
        have hf := hfz.out
        clear hfz
        generalize (WW.setCell ⟨B + 1, 0, none⟩ (.int .i64 (-1))).setCell ⟨B + 1, 1, none⟩ (.int .i64 0) = WF at hf hfin ⊢
        obtain ⟨q0, q1, qf, ql⟩ := cells2 hf
        exact bodyPost_ret (v := outV on) (by simp [results, Tryd.results58, go_sem, q0, q1, outV, on]) rfl ⟨by rw [hs.out], by rw [hs.out]; exact hfin.out⟩
      | false =>
        have hl1 := hl y.n z.n (by rw [HQ.out])
        obtain ⟨u, hu⟩ : ∃ u, x.l[0]? = some u := ⟨_, List.getElem?_eq_getElem hl1⟩
        have hu0 := hl0 u (List.mem_of_getElem? hu)
        obtain ⟨m, rfl⟩ : ∃ m : Nat, u = m := ⟨u.toNat, by omega⟩
        have hlab : In.lab x 0 = m := by simp [In.lab, List.getD_eq_getElem?_getD, hu]
        have hs : Hid (reckO r x = (on, { r with nx := m })) := Lib.hid (by rw [reckO, HG.out, HGZ.out, if_neg (by simp [HE.out]), HQ.out, if_neg (by simp), hlab])
        obtain ⟨rfl, k0⟩ := HLV.out w6 HBW6.out 0 _ hu
        rw [Nat.add_zero] at k0
        have e0 := run_cell H16.out (ru_next (up := upV bs) (fv := fv) (r := r))
        have cf : ∀ q, w6.frozen? ⟨b, q, none⟩ = false := fun q => by have := H16.out; simp [World.frozen?, this]
        have hTP := Lib.hid (show Turns w0 w (w6.setCell ⟨b, 2, none⟩ (.int .i64 m)) L c s { s with rs := { r with nx := m } :: rs } from
          HT.out _ { r with nx := m } rfl H3.out HBW6.out.os HBW6.out.tape HBW6.out.output (by have := HBW6.out.size; simp [World.setCell]; omega)
            (fun q hq hl => (Below.heap_setCell _ _ _ _ hq).trans (HBW6.out.block q hl))
            (fun fv' hf' => by
              have g1 := (HBW6.out.block b hbs).trans hf'
              rw [heap_setCell_same w6 b 2 _ 120 _ g1, ru_set_next]))
        clear hu hlab
        go_upto_region 9 with (go_at_call 80; refine (hrk.out _).mono ?_; rintro e w7 ⟨rfl, rfl⟩)
        have hrr : (w7.setCell ⟨b, 2, none⟩ (.int .i64 m)).heap[B + 1]? = some (.cells #[.int .i64 0, .int .i64 0] 41) := by
          rw [Below.heap_setCell _ _ _ _ hne2]; exact HR6.out
        have hTW := hTP.out
        clear r0 r1 rf rl x0 x1 x2 x3 x4 xf xl y0 y1 y2 yf yl z0 z1 z2 zf zl e0 k0 cf hTP
        generalize w7.setCell ⟨b, 2, none⟩ (.int .i64 m) = WW at hrr hTW ⊢
        have hfz := Lib.hid (set2 (u0 := .int .i64 (-1)) (u1 := .int .i64 0) hrr)
        have hfin := Lib.hid ((hTW.cell hw00 (t := 41) (by unfold Loc; decide) hrr hBw 0 (.int .i64 (-1))).cell hw00 (t := 41) (by unfold Loc; decide) (heap_setCell_same _ (B + 1) 0 _ 41 (.int .i64 (-1)) hrr) hBw 1 (.int .i64 0))
        obtain ⟨r0, r1, rf, rl⟩ := cells2 hrr
        clear hrr hTW
        go_wp2
        have hf := hfz.out
        clear hfz
        generalize (WW.setCell ⟨B + 1, 0, none⟩ (.int .i64 (-1))).setCell ⟨B + 1, 1, none⟩ (.int .i64 0) = WF at hf hfin ⊢
        obtain ⟨q0, q1, qf, ql⟩ := cells2 hf
        exact bodyPost_ret (v := outV on) (by simp [results, Tryd.results58, go_sem, q0, q1, outV, on]) rfl ⟨by rw [hs.out], by rw [hs.out]; exact hfin.out⟩
    · have t0 : (numE2 y z != 0) = true := by simpa using hE
      have hs : Hid (reckO r x = (stopO (numE2 y z), r)) := Lib.hid (by rw [reckO, HG.out, HGZ.out, if_pos hE])
      have hst := Lib.hid (stop_any (numE2 y z) w6)
      obtain ⟨kk, hkk⟩ : ∃ kk, kk = (stopO (numE2 y z)).k := ⟨_, rfl⟩
      obtain ⟨nn, hnn⟩ : ∃ nn, nn = (stopO (numE2 y z)).n := ⟨_, rfl⟩
      rw [← hkk, ← hnn] at hst
      have HKN := Lib.hid (show outV (stopO (numE2 y z)) = .agg #[.int .i64 kk, .int .i64 nn] by rw [outV, hkk, hnn])
      clear hE hkk hnn x0 x1 x2 x3 x4 xf xl y0 y1 y2 yf yl z0 z1 z2 zf zl r0 r1 rf rl
      go_wp2_with (go_at_call 23; refine hst.out.mono ?_; rintro e WW ⟨rfl, hb7⟩; have hrr := keepB7 HR6.out hb7; have hTW := Turns.below HT0.out hb7; have hfz := Lib.hid (set2 (u0 := .int .i64 kk) (u1 := .int .i64 nn) hrr); have hfin := Lib.hid ((hTW.cell hw00 (t := 41) (by unfold Loc; decide) hrr hBw 0 (.int .i64 kk)).cell hw00 (t := 41) (by unfold Loc; decide) (heap_setCell_same _ (B + 1) 0 _ 41 (.int .i64 kk) hrr) hBw 1 (.int .i64 nn)); obtain ⟨r0, r1, rf, rl⟩ := cells2 hrr; clear hrr hTW hb7)
      have hf := hfz.out
      clear hfz
      generalize (WW.setCell ⟨B + 1, 0, none⟩ (.int .i64 kk)).setCell ⟨B + 1, 1, none⟩ (.int .i64 nn) = WF at hf hfin ⊢
      obtain ⟨q0, q1, qf, ql⟩ := cells2 hf
      exact bodyPost_ret (v := .agg #[.int .i64 kk, .int .i64 nn]) (by simp [results, Tryd.results58, go_sem, q0, q1]) rfl ⟨by rw [hs.out, HKN.out], by rw [hs.out]; exact hfin.out⟩
end Go.Proofs.YtgpkhdccchpljaaDoor

namespace Go.Proofs.YtgpkhdccchpljaaDoor
open Go.RowKit
open M (Wd MS RepAt Owned Kept Turned)
open C (In)

theorem al2 (w : World) (o0 o1 : Obj) : Below w.heap.size w ((w.alloc o0).alloc o1) ∧ ((w.alloc o0).alloc o1).heap[w.heap.size]? = some o0 ∧ ((w.alloc o0).alloc o1).heap[w.heap.size + 1]? = some o1 := by
  refine ⟨(C.alloc_below _ _).alloc (by simp) _, ?_, ?_⟩
  · rw [Below.heap_alloc _ _ _ (by simp), heap_alloc_new]
  · have := heap_alloc_new (w.alloc o0) o1
    simpa using this
theorem al3 (w : World) (o0 o1 o2 : Obj) : Below w.heap.size w (((w.alloc o0).alloc o1).alloc o2) ∧ (((w.alloc o0).alloc o1).alloc o2).heap[w.heap.size]? = some o0 ∧ (((w.alloc o0).alloc o1).alloc o2).heap[w.heap.size + 1]? = some o1 ∧ (((w.alloc o0).alloc o1).alloc o2).heap[w.heap.size + 2]? = some o2 := by
  obtain ⟨h0, h1, h2⟩ := al2 w o0 o1
  refine ⟨h0.alloc (by simp; omega) _, ?_, ?_, ?_⟩
  · rw [Below.heap_alloc _ _ _ (by simp; omega), h1]
  · rw [Below.heap_alloc _ _ _ (by simp), h2]
  · have := heap_alloc_new ((w.alloc o0).alloc o1) o2
    simpa using this

section
variable {w0 w : World} {L : Ly} {c : Cx} {s : Se} {r : Ru} {rs : List Ru} {b : Nat} {bs : List Nat}
theorem SesAt.rb_cons (h : SesAt w0 w L c s) (hrs : s.rs = r :: rs) : ∃ b bs, L.rb = b :: bs := by
  have h1 := h.runs
  rw [hrs] at h1
  cases hb : L.rb with
  | nil => rw [hb] at h1; exact h1.elim
  | cons b bs => exact ⟨b, bs, rfl⟩
theorem SesAt.rb_nil (h : SesAt w0 w L c s) (hrs : s.rs = []) : L.rb = [] := by
  have h1 := h.runs
  rw [hrs] at h1
  cases hb : L.rb with
  | nil => rfl
  | cons b bs => rw [hb] at h1; exact h1.elim
/-- the session's cells -/
theorem SesAt.ses4 (h : SesAt w0 w L c s) (hrb : L.rb = b :: bs) : w.cell? ⟨L.sk, 0, none⟩ = some (.pointer (some ⟨L.mc, 0, none⟩)) ∧ w.cell? ⟨L.sk, 1, none⟩ = some (.int .i64 c.task) ∧ w.cell? ⟨L.sk, 2, none⟩ = some (.int .i64 s.fuel) ∧ w.cell? ⟨L.sk, 3, none⟩ = some (.pointer (some ⟨b, 0, none⟩)) ∧ (∀ j, w.frozen? ⟨L.sk, j, none⟩ = false) ∧ L.sk < w.heap.size := by
  have h0 := h.ses
  rw [sesC, hrb] at h0
  exact cells4m h0
/-- the topmost run's cells -/
theorem SesAt.run (h : SesAt w0 w L c s) (hrs : s.rs = r :: rs) (hrb : L.rb = b :: bs) : ∃ fv, w.heap[b]? = some (.cells (ruC (upV bs) fv r).toArray 120) ∧ C.FunV w0 fv r.fn ∧ r.rg.length = 16 := by
  have h1 := h.runs
  rw [hrs, hrb] at h1
  obtain ⟨⟨fv, g1, g2⟩, g3, -⟩ := h1
  exact ⟨fv, g1, g2, g3⟩
theorem reg_cells {up fv : Value} (h : w.heap[b]? = some (.cells (ruC up fv r).toArray 120)) (hl : r.rg.length = 16) (i : Nat) (hi : i < 16) :
    w.cell? ⟨b, 6 + i * 3, none⟩ = some (.bool (r.get i).p) ∧ w.cell? ⟨b, 6 + i * 3 + 1, none⟩ = some (.int .i64 (r.get i).a) ∧ w.cell? ⟨b, 6 + i * 3 + 2, none⟩ = some (.int .i64 (r.get i).n) ∧ (∀ q, w.frozen? ⟨b, q, none⟩ = false) ∧ b < w.heap.size := by
  obtain ⟨y, hy⟩ : ∃ y, r.rg[i]? = some y := ⟨_, List.getElem?_eq_getElem (by omega)⟩
  have hg : r.get i = y := by simp [Ru.get, List.getD_eq_getElem?_getD, hy]
  rw [hg]
  exact ⟨run_cell h (ru_get hy (show 0 < 3 by decide)), run_cell h (ru_get hy (show 1 < 3 by decide)), run_cell h (ru_get hy (show 2 < 3 by decide)), fun q => by simp [World.frozen?, h], (Array.getElem?_eq_some_iff.1 h).1⟩
theorem nx_cell {up fv : Value} (h : w.heap[b]? = some (.cells (ruC up fv r).toArray 120)) : w.cell? ⟨b, 2, none⟩ = some (.int .i64 r.nx) := run_cell h ru_next

def put3 (w : World) (b i : Nat) (y : Wd) : World := ((w.setCell ⟨b, 6 + i * 3, none⟩ (.bool y.p)).setCell ⟨b, 6 + i * 3 + 1, none⟩ (.int .i64 y.a)).setCell ⟨b, 6 + i * 3 + 2, none⟩ (.int .i64 y.n)
theorem put3_other {b i q : Nat} {y : Wd} (h : q ≠ b) : (put3 w b i y).heap[q]? = w.heap[q]? := by
  rw [put3, Below.heap_setCell _ _ _ _ h, Below.heap_setCell _ _ _ _ h, Below.heap_setCell _ _ _ _ h]
/-- a register of the topmost run is set -/
theorem Turns.regput (h : SesAt w0 w L c s) (hrs : s.rs = r :: rs) (hrb : L.rb = b :: bs) (i : Nat) (hi : i < 16) (y : Wd) : Turns w0 w (put3 w b i y) L c s { s with rs := r.put i y :: rs } := by
  obtain ⟨fv, h1, h2, h3⟩ := h.run hrs hrb
  refine Turns.top h hrs hrb rfl (by simp [Ru.put, h3]) rfl rfl rfl (by simp [put3, World.setCell]) (fun q hq _ => put3_other hq) fun fv' hf' => ?_
  have g1 := heap_setCell_same w b (6 + i * 3) _ 120 (.bool y.p) hf'
  have g2 := heap_setCell_same _ b (6 + i * 3 + 1) _ 120 (.int .i64 y.a) g1
  have g3 := heap_setCell_same _ b (6 + i * 3 + 2) _ 120 (.int .i64 y.n) g2
  rw [put3, g3, ru_put (upV bs) fv' r i y (by omega), Ru.put, Int.toNat_natCast]
/-- what comes next in the topmost run is set -/
theorem Turns.nxput (h : SesAt w0 w L c s) (hrs : s.rs = r :: rs) (hrb : L.rb = b :: bs) (n : Nat) : Turns w0 w (w.setCell ⟨b, 2, none⟩ (.int .i64 n)) L c s { s with rs := { r with nx := n } :: rs } := by
  obtain ⟨fv, h1, h2, h3⟩ := h.run hrs hrb
  refine Turns.top h hrs hrb rfl h3 rfl rfl rfl (by simp [World.setCell]) (fun q hq _ => Below.heap_setCell _ _ _ _ hq) fun fv' hf' => ?_
  rw [heap_setCell_same w b 2 _ 120 _ hf', ru_set_next]
theorem Turns.same (h : SesAt w0 w L c s) {w1 : World} (hb : Below w.heap.size w w1) : Turns w0 w w1 L c s s := Turns.below ⟨L, rfl, rfl, rfl, rfl, h, fun _ hb => .inl hb, Kept.refl _ _⟩ hb
theorem Turns.drew {w1 : World} {s' : Se} (h : Turns w0 w w1 L c s s') : Turns w0 w w1.drew L c s s' := h.below (Below.refl _ _).drew
/-- a call of mem turns the memory alone -/
theorem Turns.mem (h : SesAt w0 w L c s) {w' : World} {S' : MS} (T : Turned w w' L.mb L.lm L.loc s.S S') : Turns w0 w w' L c s { s with S := S' } := by
  obtain ⟨lm', loc', R', ho, hk⟩ := T
  have hlt := h.lt
  obtain ⟨fv, cv, h1, h2⟩ := h.mach
  have hss := h.ses
  rw [sesC] at hss
  have hkb : ∀ b, Own L s.S b → ¬ Owned L.mb L.lm L.loc s.S b → w'.heap[b]? = w.heap[b]? := fun b hb hn => hk.block b (hlt b hb) hn
  have ho' : ∀ b, Own { L with lm := lm', loc := loc' } S' b → Own L s.S b ∨ w.heap.size ≤ b := by
    rintro b (e | e | e | e | e | e)
    · exact .inl (.inl e)
    · exact .inl (.inr (.inl e))
    · rcases ho b e with h5 | h5
      · exact .inl (.inr (.inr (.inl h5)))
      · exact .inr h5
    · exact .inl (.inr (.inr (.inr (.inl e))))
    · exact .inl (.inr (.inr (.inr (.inr (.inl e)))))
    · exact .inl (.inr (.inr (.inr (.inr (.inr e)))))
  refine ⟨{ L with lm := lm', loc := loc' }, rfl, rfl, rfl, rfl, ⟨⟨fv, cv, (hkb _ (.inl rfl) (not_owned h.mem (by decide) h1)).trans h1, h2⟩, (hkb _ (.inr (.inl rfl)) (not_owned h.mem (by decide) hss)).trans h.ses, R', ?_, ?_, ?_, ?_, ?_, h.evs.1, ?_⟩, ho', ⟨hk.os, hk.tape, hk.output, hk.size, fun b hb hn => hk.block b hb fun e => hn (.inr (.inr (.inl e)))⟩⟩
  · refine own_keep h.told fun b hb => hkb b (.inr (.inr (.inr (.inr (.inl hb))))) ?_
    obtain ⟨_, h3⟩ := own_blk h.told hb
    exact not_owned h.mem (by decide) h3
  · refine RunsAt.keep _ _ h.runs fun b hb => hkb b (.inr (.inr (.inr (.inr (.inr hb))))) ?_
    obtain ⟨_, h3⟩ := RunsAt.blk _ _ h.runs b hb
    exact not_owned h.mem (by decide) h3
  · exact h.below.next hk.size fun b hl hf => hk.block b hl fun e => hf (h.own b (.inr (.inr (.inl e))))
  · intro b hb
    rcases ho' b hb with h5 | h5
    · exact h.own b h5
    · exact free_of_ge (Nat.le_trans h.below.size h5)
  · intro b hb e
    rcases ho b e with h5 | h5
    · exact h.apart b hb h5
    · have := hlt b (.inr (.inr (.inr (.inl hb))))
      omega
  · intro b hb
    obtain ⟨D, ⟨es, clock, h5, h6⟩, h7⟩ := h.evs.2 b hb
    exact ⟨D, ⟨es, clock, (hkb b (.inr (.inr (.inr (.inl hb)))) (h.apart b hb)).trans h5, h6⟩, h7⟩
/-- the result's cells are written -/
theorem Turns.out {WW : World} {s' : Se} (h : Turns w0 w WW L c s s') (hw : w0.heap.size ≤ w.heap.size) {B : Nat} (hB : w.heap.size ≤ B) {a0 a1 : Value} (hr : WW.heap[B]? = some (.cells #[a0, a1] 41)) (k n : Value) :
    ((WW.setCell ⟨B, 0, none⟩ k).setCell ⟨B, 1, none⟩ n).heap[B]? = some (.cells #[k, n] 41) ∧ Turns w0 w ((WW.setCell ⟨B, 0, none⟩ k).setCell ⟨B, 1, none⟩ n) L c s s' :=
  ⟨set2 hr, (h.cell hw (t := 41) (by unfold Loc; decide) hr hB 0 k).cell hw (t := 41) (by unfold Loc; decide) (heap_setCell_same WW B 0 _ 41 k hr) hB 1 n⟩
end
end Go.Proofs.YtgpkhdccchpljaaDoor

namespace Go.Proofs.YtgpkhdccchpljaaDoor
open Go.RowKit
open M (Wd MS RepAt Owned Kept Turned loadR storeR copyR clearR freeR allocR)
open C (In)

theorem infoC34 : (Tryd.prog.info? 56).map (fun i => (i.zero, i.size, i.bytes)) = some (some (.slice none 0 0), 1, 24) := by kernel_rfl
set_option maxHeartbeats 2000000 in
set_option maxRecDepth 100000 in
theorem clone34_any (ad : Addr) (n c : Nat) (xs : List Value) (w : World) (hx : xs.length = n * 1) (hbig : n * 24 ≤ 140737488355328) (hc : ∀ j u, xs[j]? = some u → w.cell? (ad.add j) = some u) (h1 : ∀ u ∈ xs, u.oneCell' = true) :
    Calls Tryd.prog 34 #[.slice (some ad) n c] w fun e w' => ∃ v', e = .returned v' ∧ w'.ownsRow w.heap.size 56 1 v' n xs ∧ v' ≠ .slice none 0 0 ∧ Below w.heap.size w w' := by
  obtain ⟨i0, hi, hz0, hz1, hz2⟩ := info_parts infoC34
  have q : ∀ (w : World) (a : Option Addr) (n c n' c' : Nat), (binOp .eql 22 (.slice a n c) (.slice none n' c')).run Tryd.prog w = .ok (.bool a.isNone) w := fun w a n c n' c' => Lib.run_eql_slice_nil w _ _ a n c n' c' Tryd.underlying22
  have A : Aside (∀ j u, xs[j]? = some u → w.cell? (ad.add j) = some u) := hc
  clear hc
  go_enter Tryd.func34, Tryd.ntmps34
  go_wp2_with (at_builtin; refine wpList_append_own _ rfl _ _ 22 rfl w.heap.size 56 i0 _ 1 24 Tryd.underlying22 hi hz0 hz1 hz2 rfl (by decide) _ _ _ rfl (World.ownsRow_made w #[] 0 (Nat.le_refl _) (Nat.zero_le _) rfl) ad n c xs rfl ?qc1 ?qc2 ?qc3 ?qc4 ?qc5 ?qc6 ?_)
  case qc1 => exact hx
  case qc2 =>
    intro j u hj
    exact Lib.cell?_alloc_some _ (A.out j u hj)
  case qc3 => exact h1
  case qc4 => unfold maxLen; omega
  case qc5 => omega
  case qc6 => simp
  intro v' w1 hown hgrow hnil
  go_wp2
  go_ret
  refine ⟨v', rfl, by simpa using hown, ?_, ?_⟩
  · exact hnil
  · exact ((Below.refl _ w).alloc (Nat.le_refl _) _).grown hgrow (by simp) (by intro k hk; simp [Value.ownBlock] at hk; omega)
set_option maxHeartbeats 1000000 in
theorem clone34_nil (n c : Nat) (w : World) : Calls Tryd.prog 34 #[.slice none n c] w fun e w' => e = .returned (.slice none 0 0) ∧ w' = w := by
  have q : ∀ (w : World) (a : Option Addr) (n c n' c' : Nat), (binOp .eql 22 (.slice a n c) (.slice none n' c')).run Tryd.prog w = .ok (.bool a.isNone) w := fun w a n c n' c' => Lib.run_eql_slice_nil w _ _ a n c n' c' Tryd.underlying22
  go_enter Tryd.func34, Tryd.ntmps34
  go_wp2
  go_ret
  exact ⟨rfl, rfl⟩
theorem infoC35 : (Tryd.prog.info? 66).map (fun i => (i.zero, i.size, i.bytes)) = some (some (.agg #[.string ⟨#[]⟩, .int .i64 0, .int .i64 0, .int .i64 0, .int .i64 0]), 5, 48) := by kernel_rfl
set_option maxHeartbeats 2000000 in
set_option maxRecDepth 100000 in
theorem clone35_any (ad : Addr) (n c : Nat) (xs : List Value) (w : World) (hx : xs.length = n * 5) (hbig : n * 48 ≤ 140737488355328) (hc : ∀ j u, xs[j]? = some u → w.cell? (ad.add j) = some u) (h1 : ∀ u ∈ xs, u.oneCell' = true) :
    Calls Tryd.prog 35 #[.slice (some ad) n c] w fun e w' => ∃ v', e = .returned v' ∧ w'.ownsRow w.heap.size 66 5 v' n xs ∧ v' ≠ .slice none 0 0 ∧ Below w.heap.size w w' := by
  obtain ⟨i0, hi, hz0, hz1, hz2⟩ := info_parts infoC35
  have q : ∀ (w : World) (a : Option Addr) (n c n' c' : Nat), (binOp .eql 23 (.slice a n c) (.slice none n' c')).run Tryd.prog w = .ok (.bool a.isNone) w := fun w a n c n' c' => Lib.run_eql_slice_nil w _ _ a n c n' c' Tryd.underlying23
  have A : Aside (∀ j u, xs[j]? = some u → w.cell? (ad.add j) = some u) := hc
  clear hc
  go_enter Tryd.func35, Tryd.ntmps35
  go_wp2_with (at_builtin; refine wpList_append_own _ rfl _ _ 23 rfl w.heap.size 66 i0 _ 5 48 Tryd.underlying23 hi hz0 hz1 hz2 rfl (by decide) _ _ _ rfl (World.ownsRow_made w #[] 0 (Nat.le_refl _) (Nat.zero_le _) rfl) ad n c xs rfl ?qc1 ?qc2 ?qc3 ?qc4 ?qc5 ?qc6 ?_)
  case qc1 => exact hx
  case qc2 =>
    intro j u hj
    exact Lib.cell?_alloc_some _ (A.out j u hj)
  case qc3 => exact h1
  case qc4 => unfold maxLen; omega
  case qc5 => omega
  case qc6 => simp
  intro v' w1 hown hgrow hnil
  go_wp2
  go_ret
  refine ⟨v', rfl, by simpa using hown, ?_, ?_⟩
  · exact hnil
  · exact ((Below.refl _ w).alloc (Nat.le_refl _) _).grown hgrow (by simp) (by intro k hk; simp [Value.ownBlock] at hk; omega)
set_option maxHeartbeats 1000000 in
theorem clone35_nil (n c : Nat) (w : World) : Calls Tryd.prog 35 #[.slice none n c] w fun e w' => e = .returned (.slice none 0 0) ∧ w' = w := by
  have q : ∀ (w : World) (a : Option Addr) (n c n' c' : Nat), (binOp .eql 23 (.slice a n c) (.slice none n' c')).run Tryd.prog w = .ok (.bool a.isNone) w := fun w a n c n' c' => Lib.run_eql_slice_nil w _ _ a n c n' c' Tryd.underlying23
  go_enter Tryd.func35, Tryd.ntmps35
  go_wp2
  go_ret
  exact ⟨rfl, rfl⟩
theorem infoC36 : (Tryd.prog.info? 84).map (fun i => (i.zero, i.size, i.bytes)) = some (some (.agg #[.int .i64 0, .int .i64 0, .int .i64 0, .int .i64 0, .slice none 0 0]), 5, 56) := by kernel_rfl
set_option maxHeartbeats 2000000 in
set_option maxRecDepth 100000 in
theorem clone36_any (ad : Addr) (n c : Nat) (xs : List Value) (w : World) (hx : xs.length = n * 5) (hbig : n * 56 ≤ 140737488355328) (hc : ∀ j u, xs[j]? = some u → w.cell? (ad.add j) = some u) (h1 : ∀ u ∈ xs, u.oneCell' = true) :
    Calls Tryd.prog 36 #[.slice (some ad) n c] w fun e w' => ∃ v', e = .returned v' ∧ w'.ownsRow w.heap.size 84 5 v' n xs ∧ v' ≠ .slice none 0 0 ∧ Below w.heap.size w w' := by
  obtain ⟨i0, hi, hz0, hz1, hz2⟩ := info_parts infoC36
  have q : ∀ (w : World) (a : Option Addr) (n c n' c' : Nat), (binOp .eql 56 (.slice a n c) (.slice none n' c')).run Tryd.prog w = .ok (.bool a.isNone) w := fun w a n c n' c' => Lib.run_eql_slice_nil w _ _ a n c n' c' Tryd.underlying56
  have A : Aside (∀ j u, xs[j]? = some u → w.cell? (ad.add j) = some u) := hc
  clear hc
  go_enter Tryd.func36, Tryd.ntmps36
  go_wp2_with (at_builtin; refine wpList_append_own _ rfl _ _ 56 rfl w.heap.size 84 i0 _ 5 56 Tryd.underlying56 hi hz0 hz1 hz2 rfl (by decide) _ _ _ rfl (World.ownsRow_made w #[] 0 (Nat.le_refl _) (Nat.zero_le _) rfl) ad n c xs rfl ?qc1 ?qc2 ?qc3 ?qc4 ?qc5 ?qc6 ?_)
  case qc1 => exact hx
  case qc2 =>
    intro j u hj
    exact Lib.cell?_alloc_some _ (A.out j u hj)
  case qc3 => exact h1
  case qc4 => unfold maxLen; omega
  case qc5 => omega
  case qc6 => simp
  intro v' w1 hown hgrow hnil
  go_wp2
  go_ret
  refine ⟨v', rfl, by simpa using hown, ?_, ?_⟩
  · exact hnil
  · exact ((Below.refl _ w).alloc (Nat.le_refl _) _).grown hgrow (by simp) (by intro k hk; simp [Value.ownBlock] at hk; omega)
set_option maxHeartbeats 1000000 in
theorem clone36_nil (n c : Nat) (w : World) : Calls Tryd.prog 36 #[.slice none n c] w fun e w' => e = .returned (.slice none 0 0) ∧ w' = w := by
  have q : ∀ (w : World) (a : Option Addr) (n c n' c' : Nat), (binOp .eql 56 (.slice a n c) (.slice none n' c')).run Tryd.prog w = .ok (.bool a.isNone) w := fun w a n c n' c' => Lib.run_eql_slice_nil w _ _ a n c n' c' Tryd.underlying56
  go_enter Tryd.func36, Tryd.ntmps36
  go_wp2
  go_ret
  exact ⟨rfl, rfl⟩
theorem infoC37 : (Tryd.prog.info? 3).map (fun i => (i.zero, i.size, i.bytes)) = some (some (.int .i64 0), 1, 8) := by kernel_rfl
set_option maxHeartbeats 2000000 in
set_option maxRecDepth 100000 in
theorem clone37_any (ad : Addr) (n c : Nat) (xs : List Value) (w : World) (hx : xs.length = n * 1) (hbig : n * 8 ≤ 140737488355328) (hc : ∀ j u, xs[j]? = some u → w.cell? (ad.add j) = some u) (h1 : ∀ u ∈ xs, u.oneCell' = true) :
    Calls Tryd.prog 37 #[.slice (some ad) n c] w fun e w' => ∃ v', e = .returned v' ∧ w'.ownsRow w.heap.size 3 1 v' n xs ∧ v' ≠ .slice none 0 0 ∧ Below w.heap.size w w' := by
  obtain ⟨i0, hi, hz0, hz1, hz2⟩ := info_parts infoC37
  have q : ∀ (w : World) (a : Option Addr) (n c n' c' : Nat), (binOp .eql 34 (.slice a n c) (.slice none n' c')).run Tryd.prog w = .ok (.bool a.isNone) w := fun w a n c n' c' => Lib.run_eql_slice_nil w _ _ a n c n' c' Tryd.underlying34
  have A : Aside (∀ j u, xs[j]? = some u → w.cell? (ad.add j) = some u) := hc
  clear hc
  go_enter Tryd.func37, Tryd.ntmps37
  go_wp2_with (at_builtin; refine wpList_append_own _ rfl _ _ 34 rfl w.heap.size 3 i0 _ 1 8 Tryd.underlying34 hi hz0 hz1 hz2 rfl (by decide) _ _ _ rfl (World.ownsRow_made w #[] 0 (Nat.le_refl _) (Nat.zero_le _) rfl) ad n c xs rfl ?qc1 ?qc2 ?qc3 ?qc4 ?qc5 ?qc6 ?_)
  case qc1 => exact hx
  case qc2 =>
    intro j u hj
    exact Lib.cell?_alloc_some _ (A.out j u hj)
  case qc3 => exact h1
  case qc4 => unfold maxLen; omega
  case qc5 => omega
  case qc6 => simp
  intro v' w1 hown hgrow hnil
  go_wp2
  go_ret
  refine ⟨v', rfl, by simpa using hown, ?_, ?_⟩
  · exact hnil
  · exact ((Below.refl _ w).alloc (Nat.le_refl _) _).grown hgrow (by simp) (by intro k hk; simp [Value.ownBlock] at hk; omega)
set_option maxHeartbeats 1000000 in
theorem clone37_nil (n c : Nat) (w : World) : Calls Tryd.prog 37 #[.slice none n c] w fun e w' => e = .returned (.slice none 0 0) ∧ w' = w := by
  have q : ∀ (w : World) (a : Option Addr) (n c n' c' : Nat), (binOp .eql 34 (.slice a n c) (.slice none n' c')).run Tryd.prog w = .ok (.bool a.isNone) w := fun w a n c n' c' => Lib.run_eql_slice_nil w _ _ a n c n' c' Tryd.underlying34
  go_enter Tryd.func37, Tryd.ntmps37
  go_wp2
  go_ret
  exact ⟨rfl, rfl⟩
theorem clone34_gen (oa : Option Addr) (n c : Nat) (xs : List Value) (w : World) (hx : xs.length = n * 1) (hbig : n * 24 ≤ 140737488355328) (hn : oa = none → n = 0) (hc : ∀ ad, oa = some ad → ∀ j u, xs[j]? = some u → w.cell? (ad.add j) = some u) (h1 : ∀ u ∈ xs, u.oneCell' = true) :
    Calls Tryd.prog 34 #[.slice oa n c] w fun e w' => ∃ oa' cap', e = .returned (.slice oa' n cap') ∧ w'.ownsRow w.heap.size 56 1 (.slice oa' n cap') n xs ∧ Below w.heap.size w w' := by
  cases oa with
  | none =>
    obtain rfl := hn rfl
    refine (clone34_nil 0 c w).mono ?_
    rintro e w' ⟨rfl, rfl⟩
    have hx0 : xs = [] := List.eq_nil_of_length_eq_zero (by simpa using hx)
    subst hx0
    exact ⟨none, 0, rfl, World.ownsRow_nil _ _ _ _, Below.refl _ _⟩
  | some ad =>
    refine (clone34_any ad n c xs w hx hbig (hc ad rfl) h1).mono ?_
    rintro e w' ⟨v', rfl, h2, h3, h4⟩
    rcases h2.2 with ⟨hv, _⟩ | ⟨g, cap, cur, rfl, _⟩
    · exact absurd hv h3
    · exact ⟨_, _, rfl, h2, h4⟩
theorem clone35_gen (oa : Option Addr) (n c : Nat) (xs : List Value) (w : World) (hx : xs.length = n * 5) (hbig : n * 48 ≤ 140737488355328) (hn : oa = none → n = 0) (hc : ∀ ad, oa = some ad → ∀ j u, xs[j]? = some u → w.cell? (ad.add j) = some u) (h1 : ∀ u ∈ xs, u.oneCell' = true) :
    Calls Tryd.prog 35 #[.slice oa n c] w fun e w' => ∃ oa' cap', e = .returned (.slice oa' n cap') ∧ w'.ownsRow w.heap.size 66 5 (.slice oa' n cap') n xs ∧ Below w.heap.size w w' := by
  cases oa with
  | none =>
    obtain rfl := hn rfl
    refine (clone35_nil 0 c w).mono ?_
    rintro e w' ⟨rfl, rfl⟩
    have hx0 : xs = [] := List.eq_nil_of_length_eq_zero (by simpa using hx)
    subst hx0
    exact ⟨none, 0, rfl, World.ownsRow_nil _ _ _ _, Below.refl _ _⟩
  | some ad =>
    refine (clone35_any ad n c xs w hx hbig (hc ad rfl) h1).mono ?_
    rintro e w' ⟨v', rfl, h2, h3, h4⟩
    rcases h2.2 with ⟨hv, _⟩ | ⟨g, cap, cur, rfl, _⟩
    · exact absurd hv h3
    · exact ⟨_, _, rfl, h2, h4⟩
theorem clone36_gen (oa : Option Addr) (n c : Nat) (xs : List Value) (w : World) (hx : xs.length = n * 5) (hbig : n * 56 ≤ 140737488355328) (hn : oa = none → n = 0) (hc : ∀ ad, oa = some ad → ∀ j u, xs[j]? = some u → w.cell? (ad.add j) = some u) (h1 : ∀ u ∈ xs, u.oneCell' = true) :
    Calls Tryd.prog 36 #[.slice oa n c] w fun e w' => ∃ oa' cap', e = .returned (.slice oa' n cap') ∧ w'.ownsRow w.heap.size 84 5 (.slice oa' n cap') n xs ∧ Below w.heap.size w w' := by
  cases oa with
  | none =>
    obtain rfl := hn rfl
    refine (clone36_nil 0 c w).mono ?_
    rintro e w' ⟨rfl, rfl⟩
    have hx0 : xs = [] := List.eq_nil_of_length_eq_zero (by simpa using hx)
    subst hx0
    exact ⟨none, 0, rfl, World.ownsRow_nil _ _ _ _, Below.refl _ _⟩
  | some ad =>
    refine (clone36_any ad n c xs w hx hbig (hc ad rfl) h1).mono ?_
    rintro e w' ⟨v', rfl, h2, h3, h4⟩
    rcases h2.2 with ⟨hv, _⟩ | ⟨g, cap, cur, rfl, _⟩
    · exact absurd hv h3
    · exact ⟨_, _, rfl, h2, h4⟩
theorem clone37_gen (oa : Option Addr) (n c : Nat) (xs : List Value) (w : World) (hx : xs.length = n * 1) (hbig : n * 8 ≤ 140737488355328) (hn : oa = none → n = 0) (hc : ∀ ad, oa = some ad → ∀ j u, xs[j]? = some u → w.cell? (ad.add j) = some u) (h1 : ∀ u ∈ xs, u.oneCell' = true) :
    Calls Tryd.prog 37 #[.slice oa n c] w fun e w' => ∃ oa' cap', e = .returned (.slice oa' n cap') ∧ w'.ownsRow w.heap.size 3 1 (.slice oa' n cap') n xs ∧ Below w.heap.size w w' := by
  cases oa with
  | none =>
    obtain rfl := hn rfl
    refine (clone37_nil 0 c w).mono ?_
    rintro e w' ⟨rfl, rfl⟩
    have hx0 : xs = [] := List.eq_nil_of_length_eq_zero (by simpa using hx)
    subst hx0
    exact ⟨none, 0, rfl, World.ownsRow_nil _ _ _ _, Below.refl _ _⟩
  | some ad =>
    refine (clone37_any ad n c xs w hx hbig (hc ad rfl) h1).mono ?_
    rintro e w' ⟨v', rfl, h2, h3, h4⟩
    rcases h2.2 with ⟨hv, _⟩ | ⟨g, cap, cur, rfl, _⟩
    · exact absurd hv h3
    · exact ⟨_, _, rfl, h2, h4⟩
end Go.Proofs.YtgpkhdccchpljaaDoor
