/-
  settle of package machine. Conditions: the session lies in the heap; the instruction is one that may be run.
-/
import Derived.Test.YtgpkhdccchpljaaDoorKJStepped
import Derived.StillTailTactics
namespace Go.Proofs.YtgpkhdccchpljaaDoor
open Go.RowKit
open M (Wd MS RepAt Owned Kept Turned loadR storeR copyR clearR freeR allocR)
open C (In)

theorem wrapks (k : Nat) (h : k < 65536) : wrap64 (k : Int) = k ∧ IntKind.i64.wrap (k : Int) = k ∧ wrap64 ((k : Int) + 1) = (k : Int) + 1 :=
  ⟨by unfold wrap64; omega, IntWalk.i64_in _ (by omega), by unfold wrap64; omega⟩
theorem fun_len {w : World} {v : Value} {f : List In} (h : C.FunV w v f) : f.length ≤ maxLen := by
  obtain ⟨_, _, _, _, _, h1, h2, _⟩ := h
  exact Nat.le_trans h1 h2
set_option maxRecDepth 100000 in
set_option maxHeartbeats 4000000 in
theorem settle_call {w0 w : World} {L : Ly} {c : Cx} {s : Se} {r : Ru} {rs : List Ru} (H : SesAt w0 w L c s) (hrs : s.rs = r :: rs) (k : Nat) (hk : r.nx = k + 1) (hkl : r.fn.length ≤ 65536) (x : In) (hx : r.fn[k]? = some x) (o : Out) (hop : x.op = 26) :
    Calls Tryd.prog 41 #[.pointer (some ⟨L.sk, 0, none⟩), .agg #[.int .i64 o.k, .int .i64 o.n]] w fun e w' => e = .returned (outV (settleR c o s).1) ∧ Turns w0 w w' L c s (settleR c o s).2 := by
  have hxx : r.fn.getD (r.nx - 1) noIn = x := by rw [hk]; simp [List.getD_eq_getElem?_getD, hx]
  have hlt : k < r.fn.length := (List.getElem?_eq_some_iff.1 hx).1
  have hs : Hid (settleR c o s = (on, s)) := Lib.hid (by simp only [settleR, hrs]; rw [hxx, if_pos hop])
  obtain ⟨b, bs, hrb⟩ := H.rb_cons hrs
  obtain ⟨W, hW⟩ : ∃ W, W = (w.alloc (.cells #[.int .i64 o.k, .int .i64 o.n] 41)).alloc (.cells #[.int .i64 0, .int .i64 0] 41) := ⟨_, rfl⟩
  obtain ⟨hbW, hx0, hx1⟩ := al2 w (.cells #[.int .i64 o.k, .int .i64 o.n] 41) (.cells #[.int .i64 0, .int .i64 0] 41)
  rw [← hW] at hbW hx0 hx1
  have HS := H.under hbW
  obtain ⟨fv, hrun, hfun, hrl⟩ := HS.run hrs hrb
  obtain ⟨z0, z1, z2, z3, zf, zl⟩ := HS.ses4 hrb
  have hfun2 := funV_under HS.below hfun
  obtain ⟨oaf, capf, bf, off, rfl, -, -, hf3, hf4⟩ := hfun2
  obtain ⟨rfl, hfl⟩ := hf3 (by omega)
  obtain ⟨lv, k0, k1, k2, k3, k4, klv⟩ := hf4 k x hx
  obtain ⟨oal, capl, bl, ol, rfl, -, -, l3, l4⟩ := klv
  have c0 : W.cell? ⟨b, 1, none⟩ = some (.slice (some ⟨bf, off, none⟩) r.fn.length capf) := run_cell hrun rfl
  have c1 : W.cell? ⟨b, 2, none⟩ = some (.int .i64 ((k : Int) + 1)) := by have := nx_cell hrun; rw [hk] at this; simpa using this
  have cl := (Array.getElem?_eq_some_iff.1 hrun).1
  have hki : (k : Int) < r.fn.length := by omega
  have hk16 : k < 65536 := by omega
  obtain ⟨fl, hfl'⟩ : ∃ fl, fl = r.fn.length := ⟨_, rfl⟩
  rw [← hfl'] at c0 hki
  have hkn : k < fl := by omega
  obtain ⟨hw1, hw2, -⟩ := wrapks k hk16
  obtain ⟨xop, hxop⟩ : ∃ xop, x.op = xop := ⟨_, rfl⟩
  rw [hxop] at k0
  obtain rfl : xop = 26 := hxop.symm.trans hop
  clear hxop hop
  have HRB := Lib.hid hrb
  have HRS := Lib.hid hrs
  have HL := Lib.hid (And.intro l3 l4)
  clear hrun hrl hfun hrb hrs hf3 hf4  hx hk hkl hlt hfl' hxx l3 l4
  obtain ⟨B, hB⟩ : ∃ B, B = w.heap.size := ⟨_, rfl⟩
  have hBw : w.heap.size ≤ B := Nat.le_of_eq hB.symm
  rw [← hB] at hx0 hx1
  have hBl : B < W.heap.size := (Array.getElem?_eq_some_iff.1 hx0).1
  have hw00 := H.below.size
  go_enter Tryd.func41, Tryd.ntmps41
  go_upto_region 1 with fail
  rw [← hW]
  simp only [← hB]
  clear hW
  replace hB := Lib.hid hB
  have HX1 := Lib.hid hx1
  have HX0 := Lib.hid hx0
  obtain ⟨x0, x1, xf, xl⟩ := cells2 hx0
  have HS' := Lib.hid HS
  have HW := Lib.hid hbW
  clear hx0 hx1 HS hbW H
  go_upto_region 2 with fail
  go_region
  have hb3 : Below W.heap.size W (W.alloc (.cells #[.int .i64 26, .int .i64 x.a, .int .i64 x.b, .int .i64 x.c, .slice oal x.l.length capl] 84)).drew := (C.alloc_below _ _).drew
  have hy3 : (W.alloc (.cells #[.int .i64 26, .int .i64 x.a, .int .i64 x.b, .int .i64 x.c, .slice oal x.l.length capl] 84)).drew.heap[W.heap.size]? = some (.cells #[.int .i64 26, .int .i64 x.a, .int .i64 x.b, .int .i64 x.c, .slice oal x.l.length capl] 84) := heap_alloc_new _ _
  have hb3K := Lib.hid hb3
  have HX03 := Lib.hid (keepB7 HX0.out hb3)
  have HX13 := Lib.hid (keepB7 HX1.out hb3)
  have H3 := Lib.hid (HS'.out.under hb3)
  have HW3 := Lib.hid (HW.out.trans (hb3.mono HW.out.size))
  clear x0 x1 xf xl z0 z1 z2 z3 zf zl c0 c1 cl k0 k1 k2 k3 k4 hb3 hw1 hw2 hki hkn hfl hk16
  generalize (W.alloc (.cells #[.int .i64 26, .int .i64 x.a, .int .i64 x.b, .int .i64 x.c, .slice oal x.l.length capl] 84)).drew = W3 at hy3 HX03 HX13 H3 HW3 hb3K ⊢
  generalize W.heap.size = b3 at hy3 ⊢
  obtain ⟨y0, y1, y2, y3, y4, yf, yl⟩ := cells5 hy3
  obtain ⟨x0, x1, xf, xl⟩ := cells2 HX03.out
  obtain ⟨r0, r1, rf, rl⟩ := cells2 HX13.out
  have HY3 := Lib.hid hy3
  clear hy3
  have hTW := Turns.same H3.out (Below.refl _ _)
  have hTW2 : Turns w0 w W3 L c s s := Turns.under HW3.out hTW
  have hrr := HX13.out
  clear hTW r0 r1 rf rl
  obtain ⟨hfz, hfin⟩ := Turns.out hTW2 hw00 (by omega) hrr (.int .i64 (-1)) (.int .i64 0)
  replace hfz := Lib.hid hfz
  replace hfin := Lib.hid hfin
  obtain ⟨r0, r1, rf, rl⟩ := cells2 hrr
  clear hTW2 hrr
  go_wp2
  have hf := hfz.out
  clear hfz
  generalize (World.setCell (World.setCell W3 _ _) _ _) = WF at hf hfin ⊢
  obtain ⟨q0, q1, qf, ql⟩ := cells2 hf
  exact bodyPost_ret (v := outV on) (by simp [results, Tryd.results41, go_sem, q0, q1, outV, on]) rfl ⟨by rw [hs.out], by rw [hs.out]; exact hfin.out⟩

set_option maxRecDepth 100000 in
set_option maxHeartbeats 4000000 in
theorem settle_cancel {w0 w : World} {L : Ly} {c : Cx} {s : Se} {r : Ru} {rs : List Ru} (H : SesAt w0 w L c s) (hrs : s.rs = r :: rs) (k : Nat) (hk : r.nx = k + 1) (hkl : r.fn.length ≤ 65536) (x : In) (hx : r.fn[k]? = some x) (o : Out) (hop : x.op = 25) (hA : 0 ≤ x.a ∧ x.a < 16) :
    Calls Tryd.prog 41 #[.pointer (some ⟨L.sk, 0, none⟩), .agg #[.int .i64 o.k, .int .i64 o.n]] w fun e w' => e = .returned (outV (settleR c o s).1) ∧ Turns w0 w w' L c s (settleR c o s).2 := by
  have hxx : r.fn.getD (r.nx - 1) noIn = x := by rw [hk]; simp [List.getD_eq_getElem?_getD, hx]
  have hlt : k < r.fn.length := (List.getElem?_eq_some_iff.1 hx).1
  obtain ⟨i, hi⟩ : ∃ i : Nat, x.a = i := ⟨x.a.toNat, by omega⟩
  have hi16 : i < 16 := by omega
  have hi17 : (i : Int) < 16 := by omega
  obtain ⟨y, hy⟩ : ∃ y, r.get i = y := ⟨_, rfl⟩
  obtain ⟨er, S', hfr⟩ : ∃ er S', freeR s.S y.p y.a y.n = (er, S') := ⟨_, _, rfl⟩
  have hs : Hid (settleR c o s = (stopO er, { s with S := S' })) := Lib.hid (by simp only [settleR, hrs]; rw [hxx, if_neg (by omega), if_pos hop, hi, hy, hfr])
  obtain ⟨b, bs, hrb⟩ := H.rb_cons hrs
  obtain ⟨W, hW⟩ : ∃ W, W = (w.alloc (.cells #[.int .i64 o.k, .int .i64 o.n] 41)).alloc (.cells #[.int .i64 0, .int .i64 0] 41) := ⟨_, rfl⟩
  obtain ⟨hbW, hx0, hx1⟩ := al2 w (.cells #[.int .i64 o.k, .int .i64 o.n] 41) (.cells #[.int .i64 0, .int .i64 0] 41)
  rw [← hW] at hbW hx0 hx1
  have HS := H.under hbW
  obtain ⟨fv, hrun, hfun, hrl⟩ := HS.run hrs hrb
  obtain ⟨z0, z1, z2, z3, zf, zl⟩ := HS.ses4 hrb
  have hfun2 := funV_under HS.below hfun
  obtain ⟨oaf, capf, bf, off, rfl, -, -, hf3, hf4⟩ := hfun2
  obtain ⟨rfl, hfl⟩ := hf3 (by omega)
  obtain ⟨lv, k0, k1, k2, k3, k4, klv⟩ := hf4 k x hx
  obtain ⟨oal, capl, bl, ol, rfl, -, -, l3, l4⟩ := klv
  have c0 : W.cell? ⟨b, 1, none⟩ = some (.slice (some ⟨bf, off, none⟩) r.fn.length capf) := run_cell hrun rfl
  have c1 : W.cell? ⟨b, 2, none⟩ = some (.int .i64 ((k : Int) + 1)) := by have := nx_cell hrun; rw [hk] at this; simpa using this
  have cl := (Array.getElem?_eq_some_iff.1 hrun).1
  have hki : (k : Int) < r.fn.length := by omega
  have hk16 : k < 65536 := by omega
  obtain ⟨fl, hfl'⟩ : ∃ fl, fl = r.fn.length := ⟨_, rfl⟩
  rw [← hfl'] at c0 hki
  have hkn : k < fl := by omega
  obtain ⟨hw1, hw2, -⟩ := wrapks k hk16
  obtain ⟨xop, hxop⟩ : ∃ xop, x.op = xop := ⟨_, rfl⟩
  rw [hxop] at k0
  obtain rfl : xop = 25 := hxop.symm.trans hop
  rw [hi] at k1
  have HI := Lib.hid hi
  clear hxop hop hA hi
  have HRB := Lib.hid hrb
  have HRS := Lib.hid hrs
  have HL := Lib.hid (And.intro l3 l4)
  clear hrun hrl hfun hrb hrs hf3 hf4  hx hk hkl hlt hfl' hxx l3 l4
  obtain ⟨B, hB⟩ : ∃ B, B = w.heap.size := ⟨_, rfl⟩
  have hBw : w.heap.size ≤ B := Nat.le_of_eq hB.symm
  rw [← hB] at hx0 hx1
  have hBl : B < W.heap.size := (Array.getElem?_eq_some_iff.1 hx0).1
  have hw00 := H.below.size
  go_enter Tryd.func41, Tryd.ntmps41
  go_upto_region 1 with fail
  rw [← hW]
  simp only [← hB]
  clear hW
  replace hB := Lib.hid hB
  have HX1 := Lib.hid hx1
  have HX0 := Lib.hid hx0
  obtain ⟨x0, x1, xf, xl⟩ := cells2 hx0
  have HS' := Lib.hid HS
  have HW := Lib.hid hbW
  clear hx0 hx1 HS hbW H
  go_upto_region 2 with fail
  go_region
  have hb3 : Below W.heap.size W (W.alloc (.cells #[.int .i64 25, .int .i64 i, .int .i64 x.b, .int .i64 x.c, .slice oal x.l.length capl] 84)).drew := (C.alloc_below _ _).drew
  have hy3 : (W.alloc (.cells #[.int .i64 25, .int .i64 i, .int .i64 x.b, .int .i64 x.c, .slice oal x.l.length capl] 84)).drew.heap[W.heap.size]? = some (.cells #[.int .i64 25, .int .i64 i, .int .i64 x.b, .int .i64 x.c, .slice oal x.l.length capl] 84) := heap_alloc_new _ _
  have hb3K := Lib.hid hb3
  have HX03 := Lib.hid (keepB7 HX0.out hb3)
  have HX13 := Lib.hid (keepB7 HX1.out hb3)
  have H3 := Lib.hid (HS'.out.under hb3)
  have HW3 := Lib.hid (HW.out.trans (hb3.mono HW.out.size))
  clear x0 x1 xf xl z0 z1 z2 z3 zf zl c0 c1 cl k0 k1 k2 k3 k4 hb3 hw1 hw2 hki hkn hfl hk16
  generalize (W.alloc (.cells #[.int .i64 25, .int .i64 i, .int .i64 x.b, .int .i64 x.c, .slice oal x.l.length capl] 84)).drew = W3 at hy3 HX03 HX13 H3 HW3 hb3K ⊢
  generalize W.heap.size = b3 at hy3 ⊢
  obtain ⟨y0, y1, y2, y3, y4, yf, yl⟩ := cells5 hy3
  obtain ⟨x0, x1, xf, xl⟩ := cells2 HX03.out
  obtain ⟨r0, r1, rf, rl⟩ := cells2 HX13.out
  have HY3 := Lib.hid hy3
  clear hy3
  obtain ⟨fv5, hrun5, -, hrl5⟩ := H3.out.run HRS.out HRB.out
  obtain ⟨z0, z1, z2, z3, zf, zl⟩ := H3.out.ses4 HRB.out
  obtain ⟨fm, cm, hmm, -⟩ := H3.out.mach
  obtain ⟨m0, m1, m2, m3, m4, mf, ml⟩ := cells5 hmm
  obtain ⟨c0, c1, c2, cf, cl⟩ := reg_cells hrun5 hrl5 i hi16
  rw [hy] at c0 c1 c2
  have H7 := Lib.hid (H3.out.under (Below.refl W3.heap.size W3).drew)
  have HW7 := Lib.hid (HW3.out.trans ((Below.refl W3.heap.size W3).drew.mono HW3.out.size))
  have HX17 := Lib.hid (keepB7 HX13.out (Below.refl W3.heap.size W3).drew)
  have hcl := Lib.hid (M.free_gen H7.out.mem y.p y.a y.n er S' hfr)
  obtain ⟨kk, hkk⟩ : ∃ kk, kk = (stopO er).k := ⟨_, rfl⟩
  obtain ⟨nn, hnn⟩ : ∃ nn, nn = (stopO er).n := ⟨_, rfl⟩
  have hst := Lib.hid (fun w' => stop_any er w')
  rw [← hkk, ← hnn] at hst
  have HKN := Lib.hid (show outV (stopO er) = .agg #[.int .i64 kk, .int .i64 nn] by rw [outV, hkk, hnn])
  clear hkk hnn hrun5 hrl5 hmm hy
  go_upto_region 6 with fail
  go_region_with
    (first
      | (go_at_call 29; refine hcl.out.mono ?_; rintro e W5 ⟨rfl, hT5⟩; have HM5 := Lib.hid hT5; clear hT5)
      | (go_at_call 23; refine (hst.out _).mono ?_; rintro e WW ⟨rfl, hb7⟩; have hT5 := Turns.mem H7.out HM5.out; have hTW := Turns.below (Turns.under HW7.out hT5) hb7; have hrr := keepB7 (hT5.local H7.out (t := 41) (by unfold Loc; decide) HX17.out) hb7; obtain ⟨hfz', hfin'⟩ := Turns.out hTW hw00 (by omega) hrr (.int .i64 kk) (.int .i64 nn); have hfz := Lib.hid hfz'; have hfin := Lib.hid hfin'; obtain ⟨r0, r1, rf, rl⟩ := cells2 hrr; clear hfz' hfin' hrr hTW hT5 hb7))
  all_goals
    go_wp2
    have hf := hfz.out
    clear hfz
    generalize (World.setCell (World.setCell WW _ _) _ _) = WF at hf hfin ⊢
    obtain ⟨q0, q1, qf, ql⟩ := cells2 hf
    exact bodyPost_ret (v := .agg #[.int .i64 kk, .int .i64 nn]) (by simp [results, Tryd.results41, go_sem, q0, q1]) rfl ⟨by rw [hs.out, HKN.out], by rw [hs.out]; exact hfin.out⟩

set_option maxRecDepth 100000 in
set_option maxHeartbeats 4000000 in
theorem settle_aborted {w0 w : World} {L : Ly} {c : Cx} {s : Se} {r : Ru} {rs : List Ru} (H : SesAt w0 w L c s) (hrs : s.rs = r :: rs) (k : Nat) (hk : r.nx = k + 1) (hkl : r.fn.length ≤ 65536) (x : In) (hx : r.fn[k]? = some x) (o : Out) (h6 : x.op ≠ 26) (h5 : x.op ≠ 25) (ho : o.k = 3) (hl : 0 < x.l.length) (hl0 : ∀ z ∈ x.l, 0 ≤ z) :
    Calls Tryd.prog 41 #[.pointer (some ⟨L.sk, 0, none⟩), .agg #[.int .i64 o.k, .int .i64 o.n]] w fun e w' => e = .returned (outV (settleR c o s).1) ∧ Turns w0 w w' L c s (settleR c o s).2 := by
  have hxx : r.fn.getD (r.nx - 1) noIn = x := by rw [hk]; simp [List.getD_eq_getElem?_getD, hx]
  have hlt : k < r.fn.length := (List.getElem?_eq_some_iff.1 hx).1
  obtain ⟨u, hu⟩ : ∃ u, x.l[0]? = some u := ⟨_, List.getElem?_eq_getElem hl⟩
  have hu0 := hl0 u (List.mem_of_getElem? hu)
  obtain ⟨m, rfl⟩ : ∃ m : Nat, u = m := ⟨u.toNat, by omega⟩
  have hlab : In.lab x 0 = m := by simp [In.lab, List.getD_eq_getElem?_getD, hu]
  have hs : Hid (settleR c o s = (on, { s with rs := { r with nx := m } :: rs })) := Lib.hid (by simp only [settleR, hrs]; rw [hxx, if_neg h6, if_neg h5, if_pos ho, hlab])
  have HU := Lib.hid hu
  have HRSK := Lib.hid hrs
  obtain ⟨b, bs, hrb⟩ := H.rb_cons hrs
  obtain ⟨W, hW⟩ : ∃ W, W = (w.alloc (.cells #[.int .i64 o.k, .int .i64 o.n] 41)).alloc (.cells #[.int .i64 0, .int .i64 0] 41) := ⟨_, rfl⟩
  obtain ⟨hbW, hx0, hx1⟩ := al2 w (.cells #[.int .i64 o.k, .int .i64 o.n] 41) (.cells #[.int .i64 0, .int .i64 0] 41)
  rw [← hW] at hbW hx0 hx1
  have HS := H.under hbW
  obtain ⟨fv, hrun, hfun, hrl⟩ := HS.run hrs hrb
  obtain ⟨z0, z1, z2, z3, zf, zl⟩ := HS.ses4 hrb
  have hfun2 := funV_under HS.below hfun
  obtain ⟨oaf, capf, bf, off, rfl, -, -, hf3, hf4⟩ := hfun2
  obtain ⟨rfl, hfl⟩ := hf3 (by omega)
  obtain ⟨lv, k0, k1, k2, k3, k4, klv⟩ := hf4 k x hx
  obtain ⟨oal, capl, bl, ol, rfl, -, -, l3, l4⟩ := klv
  have c0 : W.cell? ⟨b, 1, none⟩ = some (.slice (some ⟨bf, off, none⟩) r.fn.length capf) := run_cell hrun rfl
  have c1 : W.cell? ⟨b, 2, none⟩ = some (.int .i64 ((k : Int) + 1)) := by have := nx_cell hrun; rw [hk] at this; simpa using this
  have cl := (Array.getElem?_eq_some_iff.1 hrun).1
  have hki : (k : Int) < r.fn.length := by omega
  have hk16 : k < 65536 := by omega
  obtain ⟨fl, hfl'⟩ : ∃ fl, fl = r.fn.length := ⟨_, rfl⟩
  rw [← hfl'] at c0 hki
  have hkn : k < fl := by omega
  obtain ⟨hw1, hw2, -⟩ := wrapks k hk16
  obtain ⟨xop, hxop⟩ : ∃ xop, x.op = xop := ⟨_, rfl⟩
  rw [hxop] at k0
  have t6 : (xop == 26) = false := by rw [← hxop]; simpa using h6
  have t5 : (xop == 25) = false := by rw [← hxop]; simpa using h5
  have t3 : (o.k == 3) = true := by simpa using ho
  have hll : (0 : Int) < x.l.length := by omega
  clear hxop h6 h5 ho hu hu0 hl0 hlab
  have HRB := Lib.hid hrb
  have HRS := Lib.hid hrs
  have HL := Lib.hid (And.intro l3 l4)
  clear hrun hrl hfun hrb hrs hf3 hf4  hx hk hkl hlt hfl' hxx l3 l4
  obtain ⟨B, hB⟩ : ∃ B, B = w.heap.size := ⟨_, rfl⟩
  have hBw : w.heap.size ≤ B := Nat.le_of_eq hB.symm
  rw [← hB] at hx0 hx1
  have hBl : B < W.heap.size := (Array.getElem?_eq_some_iff.1 hx0).1
  have hw00 := H.below.size
  go_enter Tryd.func41, Tryd.ntmps41
  go_upto_region 1 with fail
  rw [← hW]
  simp only [← hB]
  clear hW
  replace hB := Lib.hid hB
  have HX1 := Lib.hid hx1
  have HX0 := Lib.hid hx0
  obtain ⟨x0, x1, xf, xl⟩ := cells2 hx0
  have HS' := Lib.hid HS
  have HW := Lib.hid hbW
  clear hx0 hx1 HS hbW H
  go_upto_region 2 with fail
  go_region
  have hb3 : Below W.heap.size W (W.alloc (.cells #[.int .i64 xop, .int .i64 x.a, .int .i64 x.b, .int .i64 x.c, .slice oal x.l.length capl] 84)).drew := (C.alloc_below _ _).drew
  have hy3 : (W.alloc (.cells #[.int .i64 xop, .int .i64 x.a, .int .i64 x.b, .int .i64 x.c, .slice oal x.l.length capl] 84)).drew.heap[W.heap.size]? = some (.cells #[.int .i64 xop, .int .i64 x.a, .int .i64 x.b, .int .i64 x.c, .slice oal x.l.length capl] 84) := heap_alloc_new _ _
  have hb3K := Lib.hid hb3
  have HX03 := Lib.hid (keepB7 HX0.out hb3)
  have HX13 := Lib.hid (keepB7 HX1.out hb3)
  have H3 := Lib.hid (HS'.out.under hb3)
  have HW3 := Lib.hid (HW.out.trans (hb3.mono HW.out.size))
  clear x0 x1 xf xl z0 z1 z2 z3 zf zl c0 c1 cl k0 k1 k2 k3 k4 hb3 hw1 hw2 hki hkn hfl hk16
  generalize (W.alloc (.cells #[.int .i64 xop, .int .i64 x.a, .int .i64 x.b, .int .i64 x.c, .slice oal x.l.length capl] 84)).drew = W3 at hy3 HX03 HX13 H3 HW3 hb3K ⊢
  generalize W.heap.size = b3 at hy3 ⊢
  obtain ⟨y0, y1, y2, y3, y4, yf, yl⟩ := cells5 hy3
  obtain ⟨x0, x1, xf, xl⟩ := cells2 HX03.out
  obtain ⟨r0, r1, rf, rl⟩ := cells2 HX13.out
  have HY3 := Lib.hid hy3
  clear hy3
  obtain ⟨fv5, hrun5, -, hrl5⟩ := H3.out.run HRS.out HRB.out
  have e0 := nx_cell hrun5
  have ef : ∀ q, W3.frozen? ⟨b, q, none⟩ = false := fun q => by simp [World.frozen?, hrun5]
  have el := (Array.getElem?_eq_some_iff.1 hrun5).1
  obtain ⟨rfl, hbl⟩ := HL.out.1 hl
  have g0 : W3.cell? ⟨bl, ol, none⟩ = some (.int .i64 m) := by
    have h1 := HL.out.2 0 _ HU.out
    exact (hb3K.out.cell (p := ⟨bl, ol + 0, none⟩) hbl).trans h1
  have hnT := Lib.hid (Turns.under HW3.out (Turns.nxput H3.out HRS.out HRB.out m))
  have hne : B + 1 ≠ b := fun e => H3.out.not_own (t := 41) (by unfold Loc; decide) (e ▸ HX13.out) (.inr (.inr (.inr (.inr (.inr (by rw [HRB.out]; simp))))))
  have hX9 : Hid ((W3.setCell ⟨b, 2, none⟩ (.int .i64 m)).heap[B + 1]? = some (.cells #[.int .i64 0, .int .i64 0] 41)) := Lib.hid ((Below.heap_setCell _ _ _ _ hne).trans HX13.out)
  clear hrun5 hrl5 hbl hl
  go_upto_region 9 with fail
  have hTW := hnT.out
  have hrr := hX9.out
  clear r0 r1 rf rl x0 x1 xf xl y0 y1 y2 y3 y4 yf yl e0 ef el g0 hnT
  generalize W3.setCell ⟨b, 2, none⟩ (.int .i64 m) = W9 at hTW hrr ⊢
  obtain ⟨hfz, hfin⟩ := Turns.out hTW hw00 (by omega) hrr (.int .i64 (-1)) (.int .i64 0)
  replace hfz := Lib.hid hfz
  replace hfin := Lib.hid hfin
  obtain ⟨r0, r1, rf, rl⟩ := cells2 hrr
  clear hTW hrr
  go_wp2
  have hf := hfz.out
  clear hfz
  generalize (World.setCell (World.setCell W9 _ _) _ _) = WF at hf hfin ⊢
  obtain ⟨q0, q1, qf, ql⟩ := cells2 hf
  exact bodyPost_ret (v := outV on) (by simp [results, Tryd.results41, go_sem, q0, q1, outV, on]) rfl ⟨by rw [hs.out], by rw [hs.out]; exact hfin.out⟩

set_option maxRecDepth 100000 in
set_option maxHeartbeats 4000000 in
theorem settle_stepped {w0 w : World} {L : Ly} {c : Cx} {s : Se} {r : Ru} {rs : List Ru} (H : SesAt w0 w L c s) (hrs : s.rs = r :: rs) (k : Nat) (hk : r.nx = k + 1) (hkl : r.fn.length ≤ 65536) (x : In) (hx : r.fn[k]? = some x) (o : Out) (hop : x.op = 24) (ho : o.k ≠ 3) (hA : 0 ≤ x.a ∧ x.a < 16) (hlen : s.told.length < 100000000) :
    Calls Tryd.prog 41 #[.pointer (some ⟨L.sk, 0, none⟩), .agg #[.int .i64 o.k, .int .i64 o.n]] w fun e w' => e = .returned (outV (settleR c o s).1) ∧ Turns w0 w w' L c s (settleR c o s).2 := by
  have hxx : r.fn.getD (r.nx - 1) noIn = x := by rw [hk]; simp [List.getD_eq_getElem?_getD, hx]
  have hlt : k < r.fn.length := (List.getElem?_eq_some_iff.1 hx).1
  have hs : Hid (settleR c o s = (on, steppedR c s r rs x o)) := Lib.hid (by simp only [settleR, hrs]; rw [hxx, if_neg (by omega), if_neg (by omega), if_neg ho, if_pos hop]; rfl)
  have hcl := Lib.hid (fun (w' : World) (H' : SesAt w0 w' L c s) (lv : Value) (hlv : C.IntsV w0 lv x.l) => stepped_any H' hrs hlen x lv hlv hA o)
  rw [hop] at hcl
  obtain ⟨b, bs, hrb⟩ := H.rb_cons hrs
  obtain ⟨W, hW⟩ : ∃ W, W = (w.alloc (.cells #[.int .i64 o.k, .int .i64 o.n] 41)).alloc (.cells #[.int .i64 0, .int .i64 0] 41) := ⟨_, rfl⟩
  obtain ⟨hbW, hx0, hx1⟩ := al2 w (.cells #[.int .i64 o.k, .int .i64 o.n] 41) (.cells #[.int .i64 0, .int .i64 0] 41)
  rw [← hW] at hbW hx0 hx1
  have HS := H.under hbW
  obtain ⟨fv, hrun, hfun, hrl⟩ := HS.run hrs hrb
  obtain ⟨z0, z1, z2, z3, zf, zl⟩ := HS.ses4 hrb
  have hfun2 := funV_under HS.below hfun
  obtain ⟨oaf, capf, bf, off, rfl, -, -, hf3, hf4⟩ := hfun2
  obtain ⟨rfl, hfl⟩ := hf3 (by omega)
  obtain ⟨lv, k0, k1, k2, k3, k4, klv⟩ := hf4 k x hx
  have HLV := Lib.hid (show C.IntsV w0 lv x.l by
    obtain ⟨_, _, bf0, off0, e0, -, -, g3, g4⟩ := hfun
    obtain ⟨e1, hbf0⟩ := g3 (by omega)
    rw [e1] at e0
    cases e0
    obtain ⟨lv0, _, _, _, _, q4, q5⟩ := g4 k x hx
    have q6 := HS.below.cell' _ _ q4
    rw [k4] at q6
    cases q6
    exact q5)
  obtain ⟨oal, capl, bl, ol, rfl, -, -, l3, l4⟩ := klv
  have c0 : W.cell? ⟨b, 1, none⟩ = some (.slice (some ⟨bf, off, none⟩) r.fn.length capf) := run_cell hrun rfl
  have c1 : W.cell? ⟨b, 2, none⟩ = some (.int .i64 ((k : Int) + 1)) := by have := nx_cell hrun; rw [hk] at this; simpa using this
  have cl := (Array.getElem?_eq_some_iff.1 hrun).1
  have hki : (k : Int) < r.fn.length := by omega
  have hk16 : k < 65536 := by omega
  obtain ⟨fl, hfl'⟩ : ∃ fl, fl = r.fn.length := ⟨_, rfl⟩
  rw [← hfl'] at c0 hki
  have hkn : k < fl := by omega
  obtain ⟨hw1, hw2, -⟩ := wrapks k hk16
  obtain ⟨xop, hxop⟩ : ∃ xop, x.op = xop := ⟨_, rfl⟩
  rw [hxop] at k0
  have t3 : (o.k == 3) = false := by simpa using ho
  obtain rfl : xop = 24 := hxop.symm.trans hop
  clear hxop hop hA ho
  have HRB := Lib.hid hrb
  have HRS := Lib.hid hrs
  have HL := Lib.hid (And.intro l3 l4)
  clear hrun hrl hfun hrb hrs hf3 hf4  hx hk hkl hlt hfl' hxx l3 l4
  obtain ⟨B, hB⟩ : ∃ B, B = w.heap.size := ⟨_, rfl⟩
  have hBw : w.heap.size ≤ B := Nat.le_of_eq hB.symm
  rw [← hB] at hx0 hx1
  have hBl : B < W.heap.size := (Array.getElem?_eq_some_iff.1 hx0).1
  have hw00 := H.below.size
  go_enter Tryd.func41, Tryd.ntmps41
  go_upto_region 1 with fail
  rw [← hW]
  simp only [← hB]
  clear hW
  replace hB := Lib.hid hB
  have HX1 := Lib.hid hx1
  have HX0 := Lib.hid hx0
  obtain ⟨x0, x1, xf, xl⟩ := cells2 hx0
  have HS' := Lib.hid HS
  have HW := Lib.hid hbW
  clear hx0 hx1 HS hbW H
  go_upto_region 2 with fail
  go_region
  have hb3 : Below W.heap.size W (W.alloc (.cells #[.int .i64 24, .int .i64 x.a, .int .i64 x.b, .int .i64 x.c, .slice oal x.l.length capl] 84)).drew := (C.alloc_below _ _).drew
  have hy3 : (W.alloc (.cells #[.int .i64 24, .int .i64 x.a, .int .i64 x.b, .int .i64 x.c, .slice oal x.l.length capl] 84)).drew.heap[W.heap.size]? = some (.cells #[.int .i64 24, .int .i64 x.a, .int .i64 x.b, .int .i64 x.c, .slice oal x.l.length capl] 84) := heap_alloc_new _ _
  have hb3K := Lib.hid hb3
  have HX03 := Lib.hid (keepB7 HX0.out hb3)
  have HX13 := Lib.hid (keepB7 HX1.out hb3)
  have H3 := Lib.hid (HS'.out.under hb3)
  have HW3 := Lib.hid (HW.out.trans (hb3.mono HW.out.size))
  clear x0 x1 xf xl z0 z1 z2 z3 zf zl c0 c1 cl k0 k1 k2 k3 k4 hb3 hw1 hw2 hki hkn hfl hk16
  generalize (W.alloc (.cells #[.int .i64 24, .int .i64 x.a, .int .i64 x.b, .int .i64 x.c, .slice oal x.l.length capl] 84)).drew = W3 at hy3 HX03 HX13 H3 HW3 hb3K ⊢
  generalize W.heap.size = b3 at hy3 ⊢
  obtain ⟨y0, y1, y2, y3, y4, yf, yl⟩ := cells5 hy3
  obtain ⟨x0, x1, xf, xl⟩ := cells2 HX03.out
  obtain ⟨r0, r1, rf, rl⟩ := cells2 HX13.out
  have HY3 := Lib.hid hy3
  clear hy3
  have hst := Lib.hid (hcl.out W3 H3.out _ HLV.out)
  rw [show outV on = .agg #[.int .i64 (-1), .int .i64 0] from rfl] at hst
  go_wp2_with (go_at_call 64; refine hst.out.mono ?_; rintro e WW ⟨rfl, hT7⟩; have hTW := Turns.under HW3.out hT7; have hrr := hT7.local H3.out (t := 41) (by unfold Loc; decide) HX13.out; obtain ⟨hfz', hfin'⟩ := Turns.out hTW hw00 (by omega) hrr (.int .i64 (-1)) (.int .i64 0); have hfz := Lib.hid hfz'; have hfin := Lib.hid hfin'; obtain ⟨r0, r1, rf, rl⟩ := cells2 hrr; clear hfz' hfin' hrr hTW hT7)
  have hf := hfz.out
  clear hfz
  generalize (World.setCell (World.setCell WW _ _) _ _) = WF at hf hfin ⊢
  obtain ⟨q0, q1, qf, ql⟩ := cells2 hf
  exact bodyPost_ret (v := outV on) (by simp [results, Tryd.results41, go_sem, q0, q1, outV, on]) rfl ⟨by rw [hs.out], by rw [hs.out]; exact hfin.out⟩

set_option maxRecDepth 100000 in
set_option maxHeartbeats 4000000 in
theorem settle_done {w0 w : World} {L : Ly} {c : Cx} {s : Se} {r : Ru} {rs : List Ru} (H : SesAt w0 w L c s) (hrs : s.rs = r :: rs) (k : Nat) (hk : r.nx = k + 1) (hkl : r.fn.length ≤ 65536) (x : In) (hx : r.fn[k]? = some x) (o : Out) (h6 : x.op ≠ 26) (h5 : x.op ≠ 25) (h4 : x.op ≠ 24) (ho : o.k = 2) :
    Calls Tryd.prog 41 #[.pointer (some ⟨L.sk, 0, none⟩), .agg #[.int .i64 o.k, .int .i64 o.n]] w fun e w' => e = .returned (outV (settleR c o s).1) ∧ Turns w0 w w' L c s (settleR c o s).2 := by
  have hxx : r.fn.getD (r.nx - 1) noIn = x := by rw [hk]; simp [List.getD_eq_getElem?_getD, hx]
  have hlt : k < r.fn.length := (List.getElem?_eq_some_iff.1 hx).1
  have hs : Hid (settleR c o s = (on, s)) := Lib.hid (by simp only [settleR, hrs]; rw [hxx, if_neg h6, if_neg h5, if_neg (by omega), if_neg h4, if_pos ho])
  obtain ⟨b, bs, hrb⟩ := H.rb_cons hrs
  obtain ⟨W, hW⟩ : ∃ W, W = (w.alloc (.cells #[.int .i64 o.k, .int .i64 o.n] 41)).alloc (.cells #[.int .i64 0, .int .i64 0] 41) := ⟨_, rfl⟩
  obtain ⟨hbW, hx0, hx1⟩ := al2 w (.cells #[.int .i64 o.k, .int .i64 o.n] 41) (.cells #[.int .i64 0, .int .i64 0] 41)
  rw [← hW] at hbW hx0 hx1
  have HS := H.under hbW
  obtain ⟨fv, hrun, hfun, hrl⟩ := HS.run hrs hrb
  obtain ⟨z0, z1, z2, z3, zf, zl⟩ := HS.ses4 hrb
  have hfun2 := funV_under HS.below hfun
  obtain ⟨oaf, capf, bf, off, rfl, -, -, hf3, hf4⟩ := hfun2
  obtain ⟨rfl, hfl⟩ := hf3 (by omega)
  obtain ⟨lv, k0, k1, k2, k3, k4, klv⟩ := hf4 k x hx
  obtain ⟨oal, capl, bl, ol, rfl, -, -, l3, l4⟩ := klv
  have c0 : W.cell? ⟨b, 1, none⟩ = some (.slice (some ⟨bf, off, none⟩) r.fn.length capf) := run_cell hrun rfl
  have c1 : W.cell? ⟨b, 2, none⟩ = some (.int .i64 ((k : Int) + 1)) := by have := nx_cell hrun; rw [hk] at this; simpa using this
  have cl := (Array.getElem?_eq_some_iff.1 hrun).1
  have hki : (k : Int) < r.fn.length := by omega
  have hk16 : k < 65536 := by omega
  obtain ⟨fl, hfl'⟩ : ∃ fl, fl = r.fn.length := ⟨_, rfl⟩
  rw [← hfl'] at c0 hki
  have hkn : k < fl := by omega
  obtain ⟨hw1, hw2, -⟩ := wrapks k hk16
  obtain ⟨xop, hxop⟩ : ∃ xop, x.op = xop := ⟨_, rfl⟩
  rw [hxop] at k0
  have t6 : (xop == 26) = false := by rw [← hxop]; simpa using h6
  have t5 : (xop == 25) = false := by rw [← hxop]; simpa using h5
  have t4 : (xop == 24) = false := by rw [← hxop]; simpa using h4
  have t3 : (o.k == 3) = false := by simp [ho]
  have t2 : (o.k == 2) = true := by simpa using ho
  clear hxop h6 h5 h4 ho
  have HRB := Lib.hid hrb
  have HRS := Lib.hid hrs
  have HL := Lib.hid (And.intro l3 l4)
  clear hrun hrl hfun hrb hrs hf3 hf4  hx hk hkl hlt hfl' hxx l3 l4
  obtain ⟨B, hB⟩ : ∃ B, B = w.heap.size := ⟨_, rfl⟩
  have hBw : w.heap.size ≤ B := Nat.le_of_eq hB.symm
  rw [← hB] at hx0 hx1
  have hBl : B < W.heap.size := (Array.getElem?_eq_some_iff.1 hx0).1
  have hw00 := H.below.size
  go_enter Tryd.func41, Tryd.ntmps41
  go_upto_region 1 with fail
  rw [← hW]
  simp only [← hB]
  clear hW
  replace hB := Lib.hid hB
  have HX1 := Lib.hid hx1
  have HX0 := Lib.hid hx0
  obtain ⟨x0, x1, xf, xl⟩ := cells2 hx0
  have HS' := Lib.hid HS
  have HW := Lib.hid hbW
  clear hx0 hx1 HS hbW H
  go_upto_region 2 with fail
  go_region
  have hb3 : Below W.heap.size W (W.alloc (.cells #[.int .i64 xop, .int .i64 x.a, .int .i64 x.b, .int .i64 x.c, .slice oal x.l.length capl] 84)).drew := (C.alloc_below _ _).drew
  have hy3 : (W.alloc (.cells #[.int .i64 xop, .int .i64 x.a, .int .i64 x.b, .int .i64 x.c, .slice oal x.l.length capl] 84)).drew.heap[W.heap.size]? = some (.cells #[.int .i64 xop, .int .i64 x.a, .int .i64 x.b, .int .i64 x.c, .slice oal x.l.length capl] 84) := heap_alloc_new _ _
  have hb3K := Lib.hid hb3
  have HX03 := Lib.hid (keepB7 HX0.out hb3)
  have HX13 := Lib.hid (keepB7 HX1.out hb3)
  have H3 := Lib.hid (HS'.out.under hb3)
  have HW3 := Lib.hid (HW.out.trans (hb3.mono HW.out.size))
  clear x0 x1 xf xl z0 z1 z2 z3 zf zl c0 c1 cl k0 k1 k2 k3 k4 hb3 hw1 hw2 hki hkn hfl hk16
  generalize (W.alloc (.cells #[.int .i64 xop, .int .i64 x.a, .int .i64 x.b, .int .i64 x.c, .slice oal x.l.length capl] 84)).drew = W3 at hy3 HX03 HX13 H3 HW3 hb3K ⊢
  generalize W.heap.size = b3 at hy3 ⊢
  obtain ⟨y0, y1, y2, y3, y4, yf, yl⟩ := cells5 hy3
  obtain ⟨x0, x1, xf, xl⟩ := cells2 HX03.out
  obtain ⟨r0, r1, rf, rl⟩ := cells2 HX13.out
  have HY3 := Lib.hid hy3
  clear hy3
  have hTW := Turns.same H3.out (Below.refl _ _)
  have hTW2 : Turns w0 w W3 L c s s := Turns.under HW3.out hTW
  have hrr := HX13.out
  clear hTW r0 r1 rf rl
  obtain ⟨hfz, hfin⟩ := Turns.out hTW2 hw00 (by omega) hrr (.int .i64 (-1)) (.int .i64 0)
  replace hfz := Lib.hid hfz
  replace hfin := Lib.hid hfin
  obtain ⟨r0, r1, rf, rl⟩ := cells2 hrr
  clear hTW2 hrr
  go_wp2
  have hf := hfz.out
  clear hfz
  generalize (World.setCell (World.setCell W3 _ _) _ _) = WF at hf hfin ⊢
  obtain ⟨q0, q1, qf, ql⟩ := cells2 hf
  exact bodyPost_ret (v := outV on) (by simp [results, Tryd.results41, go_sem, q0, q1, outV, on]) rfl ⟨by rw [hs.out], by rw [hs.out]; exact hfin.out⟩

set_option maxRecDepth 100000 in
set_option maxHeartbeats 4000000 in
theorem settle_leave {w0 w : World} {L : Ly} {c : Cx} {s : Se} {r : Ru} {rs : List Ru} (H : SesAt w0 w L c s) (hrs : s.rs = r :: rs) (k : Nat) (hk : r.nx = k + 1) (hkl : r.fn.length ≤ 65536) (x : In) (hx : r.fn[k]? = some x) (o : Out) (h6 : x.op ≠ 26) (h5 : x.op ≠ 25) (h4 : x.op ≠ 24) (ho3 : o.k ≠ 3) (ho2 : o.k ≠ 2) :
    Calls Tryd.prog 41 #[.pointer (some ⟨L.sk, 0, none⟩), .agg #[.int .i64 o.k, .int .i64 o.n]] w fun e w' => e = .returned (outV (settleR c o s).1) ∧ Turns w0 w w' L c s (settleR c o s).2 := by
  have hxx : r.fn.getD (r.nx - 1) noIn = x := by rw [hk]; simp [List.getD_eq_getElem?_getD, hx]
  have hlt : k < r.fn.length := (List.getElem?_eq_some_iff.1 hx).1
  have hs : Hid (settleR c o s = (o, { s with rs := rs })) := Lib.hid (by simp only [settleR, hrs]; rw [hxx, if_neg h6, if_neg h5, if_neg ho3, if_neg h4, if_neg ho2])
  have hlv' : s.leave = { s with rs := rs } := by rw [Se.leave, hrs]; rfl
  have HLV := Lib.hid hlv'
  clear hlv'
  obtain ⟨b, bs, hrb⟩ := H.rb_cons hrs
  obtain ⟨W, hW⟩ : ∃ W, W = (w.alloc (.cells #[.int .i64 o.k, .int .i64 o.n] 41)).alloc (.cells #[.int .i64 0, .int .i64 0] 41) := ⟨_, rfl⟩
  obtain ⟨hbW, hx0, hx1⟩ := al2 w (.cells #[.int .i64 o.k, .int .i64 o.n] 41) (.cells #[.int .i64 0, .int .i64 0] 41)
  rw [← hW] at hbW hx0 hx1
  have HS := H.under hbW
  obtain ⟨fv, hrun, hfun, hrl⟩ := HS.run hrs hrb
  obtain ⟨z0, z1, z2, z3, zf, zl⟩ := HS.ses4 hrb
  have hfun2 := funV_under HS.below hfun
  obtain ⟨oaf, capf, bf, off, rfl, -, -, hf3, hf4⟩ := hfun2
  obtain ⟨rfl, hfl⟩ := hf3 (by omega)
  obtain ⟨lv, k0, k1, k2, k3, k4, klv⟩ := hf4 k x hx
  obtain ⟨oal, capl, bl, ol, rfl, -, -, l3, l4⟩ := klv
  have c0 : W.cell? ⟨b, 1, none⟩ = some (.slice (some ⟨bf, off, none⟩) r.fn.length capf) := run_cell hrun rfl
  have c1 : W.cell? ⟨b, 2, none⟩ = some (.int .i64 ((k : Int) + 1)) := by have := nx_cell hrun; rw [hk] at this; simpa using this
  have cl := (Array.getElem?_eq_some_iff.1 hrun).1
  have hki : (k : Int) < r.fn.length := by omega
  have hk16 : k < 65536 := by omega
  obtain ⟨fl, hfl'⟩ : ∃ fl, fl = r.fn.length := ⟨_, rfl⟩
  rw [← hfl'] at c0 hki
  have hkn : k < fl := by omega
  obtain ⟨hw1, hw2, -⟩ := wrapks k hk16
  obtain ⟨xop, hxop⟩ : ∃ xop, x.op = xop := ⟨_, rfl⟩
  rw [hxop] at k0
  have t6 : (xop == 26) = false := by rw [← hxop]; simpa using h6
  have t5 : (xop == 25) = false := by rw [← hxop]; simpa using h5
  have t4 : (xop == 24) = false := by rw [← hxop]; simpa using h4
  have t3 : (o.k == 3) = false := by simpa using ho3
  have t2 : (o.k == 2) = false := by simpa using ho2
  clear hxop h6 h5 h4 ho3 ho2
  have HRB := Lib.hid hrb
  have HRS := Lib.hid hrs
  have HL := Lib.hid (And.intro l3 l4)
  clear hrun hrl hfun hrb hrs hf3 hf4  hx hk hkl hlt hfl' hxx l3 l4
  obtain ⟨B, hB⟩ : ∃ B, B = w.heap.size := ⟨_, rfl⟩
  have hBw : w.heap.size ≤ B := Nat.le_of_eq hB.symm
  rw [← hB] at hx0 hx1
  have hBl : B < W.heap.size := (Array.getElem?_eq_some_iff.1 hx0).1
  have hw00 := H.below.size
  go_enter Tryd.func41, Tryd.ntmps41
  go_upto_region 1 with fail
  rw [← hW]
  simp only [← hB]
  clear hW
  replace hB := Lib.hid hB
  have HX1 := Lib.hid hx1
  have HX0 := Lib.hid hx0
  obtain ⟨x0, x1, xf, xl⟩ := cells2 hx0
  have HS' := Lib.hid HS
  have HW := Lib.hid hbW
  clear hx0 hx1 HS hbW H
  go_upto_region 2 with fail
  go_region
  have hb3 : Below W.heap.size W (W.alloc (.cells #[.int .i64 xop, .int .i64 x.a, .int .i64 x.b, .int .i64 x.c, .slice oal x.l.length capl] 84)).drew := (C.alloc_below _ _).drew
  have hy3 : (W.alloc (.cells #[.int .i64 xop, .int .i64 x.a, .int .i64 x.b, .int .i64 x.c, .slice oal x.l.length capl] 84)).drew.heap[W.heap.size]? = some (.cells #[.int .i64 xop, .int .i64 x.a, .int .i64 x.b, .int .i64 x.c, .slice oal x.l.length capl] 84) := heap_alloc_new _ _
  have hb3K := Lib.hid hb3
  have HX03 := Lib.hid (keepB7 HX0.out hb3)
  have HX13 := Lib.hid (keepB7 HX1.out hb3)
  have H3 := Lib.hid (HS'.out.under hb3)
  have HW3 := Lib.hid (HW.out.trans (hb3.mono HW.out.size))
  clear x0 x1 xf xl z0 z1 z2 z3 zf zl c0 c1 cl k0 k1 k2 k3 k4 hb3 hw1 hw2 hki hkn hfl hk16
  generalize (W.alloc (.cells #[.int .i64 xop, .int .i64 x.a, .int .i64 x.b, .int .i64 x.c, .slice oal x.l.length capl] 84)).drew = W3 at hy3 HX03 HX13 H3 HW3 hb3K ⊢
  generalize W.heap.size = b3 at hy3 ⊢
  obtain ⟨y0, y1, y2, y3, y4, yf, yl⟩ := cells5 hy3
  obtain ⟨x0, x1, xf, xl⟩ := cells2 HX03.out
  obtain ⟨r0, r1, rf, rl⟩ := cells2 HX13.out
  have HY3 := Lib.hid hy3
  clear hy3
  have hlf := Lib.hid (leave_any H3.out HRB.out o)
  rw [HLV.out, show outV o = .agg #[.int .i64 o.k, .int .i64 o.n] from rfl] at hlf
  go_wp2_with (go_at_call 65; refine hlf.out.mono ?_; rintro e WW ⟨rfl, hT7⟩; have hTW := Turns.under HW3.out hT7; have hrr := hT7.local H3.out (t := 41) (by unfold Loc; decide) HX13.out; obtain ⟨hfz', hfin'⟩ := Turns.out hTW hw00 (by omega) hrr (.int .i64 o.k) (.int .i64 o.n); have hfz := Lib.hid hfz'; have hfin := Lib.hid hfin'; obtain ⟨r0, r1, rf, rl⟩ := cells2 hrr; clear hfz' hfin' hrr hTW hT7)
  have hf := hfz.out
  clear hfz
  generalize (World.setCell (World.setCell WW _ _) _ _) = WF at hf hfin ⊢
  obtain ⟨q0, q1, qf, ql⟩ := cells2 hf
  exact bodyPost_ret (v := outV o) (by simp [results, Tryd.results41, go_sem, q0, q1, outV]) rfl ⟨by rw [hs.out], by rw [hs.out]; exact hfin.out⟩

end Go.Proofs.YtgpkhdccchpljaaDoor
