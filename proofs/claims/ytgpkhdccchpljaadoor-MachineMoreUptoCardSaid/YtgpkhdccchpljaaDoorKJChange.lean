/-
  Several texts of the proof in one: KSet, KChange. No conditions of their own: each lemma states its own.
-/
import Derived.Test.YtgpkhdccchpljaaDoorKWord
import Derived.Test.YtgpkhdccchpljaaDoorKJStepped
import Derived.StillTailTactics
namespace Go.Proofs.YtgpkhdccchpljaaDoor
open Go.RowKit
open M (Wd MS RepAt Owned Kept Turned loadR storeR copyR clearR freeR allocR)
open C (In)

set_option maxRecDepth 100000 in
set_option maxHeartbeats 4000000 in
theorem set_any {w0 w : World} {L : Ly} {c : Cx} {s : Se} {r : Ru} {rs : List Ru} (H : SesAt w0 w L c s) (hrs : s.rs = r :: rs) (x : In) (lv : Value) (hlv : C.IntsV w0 lv x.l) (hA : 0 ≤ x.a ∧ x.a < 16) (hop : x.op = 0 ∨ x.op = 1 ∨ x.op = 2 ∨ x.op = 3 ∨ x.op = 16 ∨ x.op = 22)
    (hmade : s.S.blocks.length + 1 < 1000000) (hB : x.op = 2 ∨ x.op = 3 → 0 ≤ x.b ∧ x.b < 16) (hF : x.op = 22 → 0 ≤ x.b ∧ x.b < c.p.cs.length) :
    Calls Tryd.prog 56 #[.pointer (some ⟨L.sk, 0, none⟩), .agg #[.int .i64 x.op, .int .i64 x.a, .int .i64 x.b, .int .i64 x.c, lv]] w fun e w' => e = .returned (outV (stopO (wordR c.p s.S r x).1.2)) ∧ Turns w0 w w' L c s { s with S := (wordR c.p s.S r x).2, rs := r.put x.a (wordR c.p s.S r x).1.1 :: rs } := by
  obtain ⟨y, er, S', hR⟩ : ∃ y er S', wordR c.p s.S r x = ((y, er), S') := ⟨_, _, _, rfl⟩
  rw [hR]
  have hword := fun (w' : World) (H' : SesAt w0 w' L c s) => word_any H' hrs x lv hlv hA hop hmade hB hF y er S' hR
  clear hop hB hF hR hmade
  obtain ⟨oal, capl, bl, ol, rfl, -, -, -, -⟩ := hlv
  obtain ⟨i, hi⟩ : ∃ i : Nat, x.a = i := ⟨x.a.toNat, by omega⟩
  have hi16 : i < 16 := by omega
  have hi17 : (i : Int) < 16 := by omega
  have HI := Lib.hid hi
  obtain ⟨xop, xb, xc, nl, hxx⟩ : ∃ xop xb xc nl, x.op = xop ∧ x.b = xb ∧ x.c = xc ∧ x.l.length = nl := ⟨_, _, _, _, rfl, rfl, rfl, rfl⟩
  obtain ⟨hxop, hxb, hxc, hxl⟩ := hxx
  rw [hi, hxop, hxb, hxc, hxl] at hword ⊢
  clear hxop hxb hxc hxl hi hA
  obtain ⟨W, hW⟩ : ∃ W, W = (w.alloc (.cells #[.int .i64 xop, .int .i64 i, .int .i64 xb, .int .i64 xc, .slice oal nl capl] 84)).alloc (.cells #[.int .i64 0, .int .i64 0] 41) := ⟨_, rfl⟩
  obtain ⟨hbW, hx0, hx1⟩ := al2 w (.cells #[.int .i64 xop, .int .i64 i, .int .i64 xb, .int .i64 xc, .slice oal nl capl] 84) (.cells #[.int .i64 0, .int .i64 0] 41)
  rw [← hW] at hbW hx0 hx1
  have HS := H.under hbW
  obtain ⟨B, hB⟩ : ∃ B, B = w.heap.size := ⟨_, rfl⟩
  have hBw : w.heap.size ≤ B := Nat.le_of_eq hB.symm
  rw [← hB] at hx0 hx1
  have hBl : B < W.heap.size := (Array.getElem?_eq_some_iff.1 hx0).1
  have hw00 := H.below.size
  go_enter Tryd.func56, Tryd.ntmps56
  go_upto_region 1 with fail
  rw [← hW]
  simp only [← hB]
  clear hW
  replace hB := Lib.hid hB
  have HW := Lib.hid hbW
  have HX0 := Lib.hid hx0
  have HX1 := Lib.hid hx1
  have HSS := Lib.hid HS
  have HRS := Lib.hid hrs
  have hcl := Lib.hid (hword W HS)
  obtain ⟨x0, x1, x2, x3, x4, xf, xl⟩ := cells5 hx0
  clear hx0 hx1 HS hbW H hword hrs
  go_upto_region 2 with (go_at_call 77; refine hcl.out.mono ?_; rintro e w5 ⟨rfl, hT5⟩; have HT5 := Lib.hid hT5; clear hT5)
  have hb6 : Below w5.heap.size w5 (w5.alloc (.cells #[.bool y.p, .int .i64 y.a, .int .i64 y.n] 38)) := C.alloc_below _ _
  have HT6 := Lib.hid (Turns.below HT5.out hb6)
  have hy6 : (w5.alloc (.cells #[.bool y.p, .int .i64 y.a, .int .i64 y.n] 38)).heap[w5.heap.size]? = some (.cells #[.bool y.p, .int .i64 y.a, .int .i64 y.n] 38) := heap_alloc_new _ _
  have hX0 := keepB7 (HT5.out.local HSS.out (t := 84) (by unfold Loc; decide) HX0.out) hb6
  have hX1 := keepB7 (HT5.out.local HSS.out (t := 41) (by unfold Loc; decide) HX1.out) hb6
  clear x0 x1 x2 x3 x4 xf xl hb6
  generalize w5.alloc (.cells #[.bool y.p, .int .i64 y.a, .int .i64 y.n] 38) = w6 at HT6 hy6 hX0 hX1 ⊢
  generalize w5.heap.size = b5 at hy6 ⊢
  have hT6 := HT6.out
  obtain ⟨L1, e1, e2, e3, e4, H1, o1, k1⟩ := hT6
  obtain ⟨b, bs, hrb⟩ := H1.rb_cons (show ({ s with S := S' } : Se).rs = r :: rs from HRS.out)
  obtain ⟨fv, hrun, -, hrl⟩ := H1.run (show ({ s with S := S' } : Se).rs = r :: rs from HRS.out) hrb
  obtain ⟨z0, z1, z2, z3, zf, zl⟩ := H1.ses4 hrb
  rw [e2] at z0 z1 z2 z3 zl
  simp only [e2] at zf
  obtain ⟨c0, c1, c2, cf, cl⟩ := reg_cells hrun hrl i hi16
  obtain ⟨x0, x1, x2, x3, x4, xf, xl⟩ := cells5 hX0
  obtain ⟨y0, y1, y2, yf, yl⟩ := cells3 hy6
  have hne : B + 1 ≠ b := fun e => H1.not_own (t := 41) (by unfold Loc; decide) (e ▸ hX1) (.inr (.inr (.inr (.inr (.inr (by rw [hrb]; simp))))))
  have hTP : Turns w0 W (put3 w6 b i y).drew L c s { s with S := S', rs := r.put i y :: rs } := Turns.drew (Turns.after e1 e2 e3 e4 o1 k1 (Turns.regput H1 (show ({ s with S := S' } : Se).rs = r :: rs from HRS.out) hrb i hi16 y))
  have hTP2 := Lib.hid (Turns.under HW.out hTP)
  have hrr := Lib.hid ((put3_other (y := y) (i := i) hne).trans hX1)
  clear H1 hrun hrl hrb hX0 hX1 hne hTP e1 e2 e3 e4 o1 k1 hy6
  go_region
  have hTW := hTP2.out
  have hr2 := hrr.out
  rw [show put3 w6 b i y = ((w6.setCell ⟨b, 6 + i * 3, none⟩ (.bool y.p)).setCell ⟨b, 6 + i * 3 + 1, none⟩ (.int .i64 y.a)).setCell ⟨b, 6 + i * 3 + 2, none⟩ (.int .i64 y.n) from rfl] at hTW hr2
  clear hTP2 hrr z0 z1 z2 z3 zf zl c0 c1 c2 cf cl x0 x1 x2 x3 x4 xf xl y0 y1 y2 yf yl
  replace hr2 : (((w6.setCell ⟨b, 6 + i * 3, none⟩ (.bool y.p)).setCell ⟨b, 6 + i * 3 + 1, none⟩ (.int .i64 y.a)).setCell ⟨b, 6 + i * 3 + 2, none⟩ (.int .i64 y.n)).drew.heap[B + 1]? = some (.cells #[.int .i64 0, .int .i64 0] 41) := hr2
  generalize (((w6.setCell ⟨b, 6 + i * 3, none⟩ (.bool y.p)).setCell ⟨b, 6 + i * 3 + 1, none⟩ (.int .i64 y.a)).setCell ⟨b, 6 + i * 3 + 2, none⟩ (.int .i64 y.n)).drew = w7 at hTW hr2 ⊢
  have HT7 := Lib.hid hTW
  have HX17 := Lib.hid hr2
  obtain ⟨kk, hkk⟩ : ∃ kk, kk = (stopO er).k := ⟨_, rfl⟩
  obtain ⟨nn, hnn⟩ : ∃ nn, nn = (stopO er).n := ⟨_, rfl⟩
  have hst := Lib.hid (stop_any er w7)
  rw [← hkk, ← hnn] at hst
  have HKN := Lib.hid (show outV (stopO er) = .agg #[.int .i64 kk, .int .i64 nn] by rw [outV, hkk, hnn])
  clear hkk hnn hTW hr2
  go_wp2_with (go_at_call 23; refine hst.out.mono ?_; rintro e WW ⟨rfl, hb7⟩; have hTW := Turns.below HT7.out hb7; have hrr := keepB7 HX17.out hb7; obtain ⟨hfz', hfin'⟩ := Turns.out hTW hw00 (by omega) hrr (.int .i64 kk) (.int .i64 nn); have hfz := Lib.hid hfz'; have hfin := Lib.hid hfin'; obtain ⟨r0, r1, rf, rl⟩ := cells2 hrr; clear hfz' hfin' hrr hTW hb7)
  have hf := hfz.out
  clear hfz
  generalize (World.setCell (World.setCell WW _ _) _ _) = WF at hf hfin ⊢
  obtain ⟨q0, q1, qf, ql⟩ := cells2 hf
  exact bodyPost_ret (v := .agg #[.int .i64 kk, .int .i64 nn]) (by simp [results, Tryd.results56, go_sem, q0, q1]) rfl ⟨by rw [HKN.out], hfin.out⟩
end Go.Proofs.YtgpkhdccchpljaaDoor

namespace Go.Proofs.YtgpkhdccchpljaaDoor
open Go.RowKit
open M (Wd MS RepAt Owned Kept Turned loadR storeR copyR clearR freeR allocR)
open C (In)

set_option maxRecDepth 100000 in
set_option maxHeartbeats 4000000 in
theorem change_store {w0 w : World} {L : Ly} {c : Cx} {s : Se} {r : Ru} {rs : List Ru} (H : SesAt w0 w L c s) (hrs : s.rs = r :: rs) (x : In) (lv : Value) (hlv : C.IntsV w0 lv x.l) (hA : 0 ≤ x.a ∧ x.a < 16) (hB : 0 ≤ x.b ∧ x.b < 16) (hn : (r.get x.a).n ≤ 9223372036854775807) (hop : x.op = 4) (er : Int) (S' : MS) (hR : changeR s.S r x = (er, S')) :
    Calls Tryd.prog 57 #[.pointer (some ⟨L.sk, 0, none⟩), .agg #[.int .i64 x.op, .int .i64 x.a, .int .i64 x.b, .int .i64 x.c, lv]] w fun e w' => e = .returned (.int .i64 er) ∧ Turns w0 w w' L c s { s with S := S' } := by
  obtain ⟨oal, capl, bl, ol, rfl, -, -, -, -⟩ := hlv
  obtain ⟨i, hi⟩ : ∃ i : Nat, x.a = i := ⟨x.a.toNat, by omega⟩
  have hi16 : i < 16 := by omega
  have hi17 : (i : Int) < 16 := by omega
  have HI := Lib.hid hi
  obtain ⟨xop, xb, xc, nl, hxx⟩ : ∃ xop xb xc nl, x.op = xop ∧ x.b = xb ∧ x.c = xc ∧ x.l.length = nl := ⟨_, _, _, _, rfl, rfl, rfl, rfl⟩
  obtain ⟨hxop, hxb, hxc, hxl⟩ := hxx
  obtain ⟨ib, hib⟩ : ∃ ib : Nat, x.b = ib := ⟨x.b.toNat, by omega⟩
  have hj16 : ib < 16 := by omega
  have hj17 : (ib : Int) < 16 := by omega
  obtain ⟨z, hz⟩ : ∃ z, r.get ib = z := ⟨_, rfl⟩
  obtain ⟨b, bs, hrb⟩ := H.rb_cons hrs
  obtain ⟨y, hy⟩ : ∃ y, r.get i = y := ⟨_, rfl⟩
  rw [hi, hy] at hn
  have hR3 : storeR s.S y.p y.a y.n z = (er, S') := by
    rw [changeR, hop, if_pos rfl, hi, hib, hy, hz] at hR
    exact hR
  rw [hi, hop, hib, hxc, hxl]
  clear hxop hxb hxc hxl hi hA hib hB hR hop
  obtain ⟨W, hW⟩ : ∃ W, W = w.alloc (.cells #[.int .i64 4, .int .i64 i, .int .i64 ib, .int .i64 xc, .slice oal nl capl] 84) := ⟨_, rfl⟩
  have hbW : Below w.heap.size w W := by rw [hW]; exact C.alloc_below _ _
  have hx0 : W.heap[w.heap.size]? = some (.cells #[.int .i64 4, .int .i64 i, .int .i64 ib, .int .i64 xc, .slice oal nl capl] 84) := by rw [hW, heap_alloc_new]
  have HS := H.under hbW
  obtain ⟨fv, hrun, -, hrl⟩ := HS.run hrs hrb
  obtain ⟨z0, z1, z2, z3, zf, zl⟩ := HS.ses4 hrb
  obtain ⟨fm, cm, hmm, -⟩ := HS.mach
  obtain ⟨m0, m1, m2, m3, m4, mf, ml⟩ := cells5 hmm
  obtain ⟨c0, c1, c2, cf, cl⟩ := reg_cells hrun hrl i hi16
  rw [hy] at c0 c1 c2
  obtain ⟨d0, d1, d2, -, -⟩ := reg_cells hrun hrl ib hj16
  rw [hz] at d0 d1 d2
  have HRB := Lib.hid hrb
  have HRS := Lib.hid hrs
  clear hrun hrl hrs hrb hmm hy hz
  obtain ⟨B, hB⟩ : ∃ B, B = w.heap.size := ⟨_, rfl⟩
  have hBw : w.heap.size ≤ B := Nat.le_of_eq hB.symm
  rw [← hB] at hx0
  have hBl : B < W.heap.size := (Array.getElem?_eq_some_iff.1 hx0).1
  have hw00 := H.below.size
  go_enter Tryd.func57, Tryd.ntmps57
  go_upto_region 1 with fail
  rw [← hW]
  simp only [← hB]
  clear hW
  replace hB := Lib.hid hB
  have HX0 := Lib.hid hx0
  obtain ⟨x0, x1, x2, x3, x4, xf, xl⟩ := cells5 hx0
  have H7 := Lib.hid (HS.under (Below.refl W.heap.size W).drew)
  have HBW7 := Lib.hid (hbW.trans ((Below.refl W.heap.size W).drew.mono hbW.size))
  have hcl := Lib.hid (M.store_gen H7.out.mem y.p y.a y.n z er S' hR3 hn)
  clear hx0 HS hbW H
  go_upto_region 4 with fail
  go_still_tail 19, (by kernel_rfl)
  change wpList _ _ _ _ _ W.drew
  go_wp2_with (go_at_call 55; refine hcl.out.mono ?_; rintro e WW ⟨rfl, hT7⟩; have hfin := Lib.hid (Turns.under HBW7.out (Turns.mem H7.out hT7)); clear hT7)
  go_ret
  exact ⟨rfl, hfin.out⟩

set_option maxRecDepth 100000 in
set_option maxHeartbeats 4000000 in
theorem change_copy {w0 w : World} {L : Ly} {c : Cx} {s : Se} {r : Ru} {rs : List Ru} (H : SesAt w0 w L c s) (hrs : s.rs = r :: rs) (x : In) (lv : Value) (hlv : C.IntsV w0 lv x.l) (hA : 0 ≤ x.a ∧ x.a < 16) (hB : 0 ≤ x.b ∧ x.b < 16) (hn : (r.get x.a).n ≤ 9223372036854775807) (hc : x.c ≤ 1048576) (hop : x.op = 5) (er : Int) (S' : MS) (hR : changeR s.S r x = (er, S')) :
    Calls Tryd.prog 57 #[.pointer (some ⟨L.sk, 0, none⟩), .agg #[.int .i64 x.op, .int .i64 x.a, .int .i64 x.b, .int .i64 x.c, lv]] w fun e w' => e = .returned (.int .i64 er) ∧ Turns w0 w w' L c s { s with S := S' } := by
  obtain ⟨oal, capl, bl, ol, rfl, -, -, -, -⟩ := hlv
  obtain ⟨i, hi⟩ : ∃ i : Nat, x.a = i := ⟨x.a.toNat, by omega⟩
  have hi16 : i < 16 := by omega
  have hi17 : (i : Int) < 16 := by omega
  have HI := Lib.hid hi
  obtain ⟨xop, xb, xc, nl, hxx⟩ : ∃ xop xb xc nl, x.op = xop ∧ x.b = xb ∧ x.c = xc ∧ x.l.length = nl := ⟨_, _, _, _, rfl, rfl, rfl, rfl⟩
  obtain ⟨hxop, hxb, hxc, hxl⟩ := hxx
  obtain ⟨ib, hib⟩ : ∃ ib : Nat, x.b = ib := ⟨x.b.toNat, by omega⟩
  have hj16 : ib < 16 := by omega
  have hj17 : (ib : Int) < 16 := by omega
  obtain ⟨z, hz⟩ : ∃ z, r.get ib = z := ⟨_, rfl⟩
  obtain ⟨b, bs, hrb⟩ := H.rb_cons hrs
  obtain ⟨y, hy⟩ : ∃ y, r.get i = y := ⟨_, rfl⟩
  rw [hi, hy] at hn
  rw [hxc] at hc
  have hR3 : copyR s.S y.p y.a y.n z.p z.a z.n xc = (er, S') := by
    rw [changeR, hop, if_neg (by decide), if_pos rfl, hi, hib, hy, hz, hxc] at hR
    exact hR
  rw [hi, hop, hib, hxc, hxl]
  clear hxop hxb hxc hxl hi hA hib hB hR hop
  obtain ⟨W, hW⟩ : ∃ W, W = w.alloc (.cells #[.int .i64 5, .int .i64 i, .int .i64 ib, .int .i64 xc, .slice oal nl capl] 84) := ⟨_, rfl⟩
  have hbW : Below w.heap.size w W := by rw [hW]; exact C.alloc_below _ _
  have hx0 : W.heap[w.heap.size]? = some (.cells #[.int .i64 5, .int .i64 i, .int .i64 ib, .int .i64 xc, .slice oal nl capl] 84) := by rw [hW, heap_alloc_new]
  have HS := H.under hbW
  obtain ⟨fv, hrun, -, hrl⟩ := HS.run hrs hrb
  obtain ⟨z0, z1, z2, z3, zf, zl⟩ := HS.ses4 hrb
  obtain ⟨fm, cm, hmm, -⟩ := HS.mach
  obtain ⟨m0, m1, m2, m3, m4, mf, ml⟩ := cells5 hmm
  obtain ⟨c0, c1, c2, cf, cl⟩ := reg_cells hrun hrl i hi16
  rw [hy] at c0 c1 c2
  obtain ⟨d0, d1, d2, -, -⟩ := reg_cells hrun hrl ib hj16
  rw [hz] at d0 d1 d2
  have HRB := Lib.hid hrb
  have HRS := Lib.hid hrs
  clear hrun hrl hrs hrb hmm hy hz
  obtain ⟨B, hB⟩ : ∃ B, B = w.heap.size := ⟨_, rfl⟩
  have hBw : w.heap.size ≤ B := Nat.le_of_eq hB.symm
  rw [← hB] at hx0
  have hBl : B < W.heap.size := (Array.getElem?_eq_some_iff.1 hx0).1
  have hw00 := H.below.size
  go_enter Tryd.func57, Tryd.ntmps57
  go_upto_region 1 with fail
  rw [← hW]
  simp only [← hB]
  clear hW
  replace hB := Lib.hid hB
  have HX0 := Lib.hid hx0
  obtain ⟨x0, x1, x2, x3, x4, xf, xl⟩ := cells5 hx0
  have H7 := Lib.hid (HS.under (Below.refl W.heap.size W).drew)
  have HBW7 := Lib.hid (hbW.trans ((Below.refl W.heap.size W).drew.mono hbW.size))
  have hcl := Lib.hid (M.copy_gen H7.out.mem y.p y.a y.n z.p z.a z.n xc er S' hR3 hn hc)
  clear hx0 HS hbW H
  go_upto_region 6 with fail
  go_still_tail 21, (by kernel_rfl)
  change wpList _ _ _ _ _ W.drew
  go_wp2_with (go_at_call 78; refine hcl.out.mono ?_; rintro e WW ⟨rfl, hT7⟩; have hfin := Lib.hid (Turns.under HBW7.out (Turns.mem H7.out hT7)); clear hT7)
  go_ret
  exact ⟨rfl, hfin.out⟩

set_option maxRecDepth 100000 in
set_option maxHeartbeats 4000000 in
theorem change_clear {w0 w : World} {L : Ly} {c : Cx} {s : Se} {r : Ru} {rs : List Ru} (H : SesAt w0 w L c s) (hrs : s.rs = r :: rs) (x : In) (lv : Value) (hlv : C.IntsV w0 lv x.l) (hA : 0 ≤ x.a ∧ x.a < 16) (hn : (r.get x.a).n ≤ 9223372036854775807) (hop : x.op = 7) (er : Int) (S' : MS) (hR : changeR s.S r x = (er, S')) :
    Calls Tryd.prog 57 #[.pointer (some ⟨L.sk, 0, none⟩), .agg #[.int .i64 x.op, .int .i64 x.a, .int .i64 x.b, .int .i64 x.c, lv]] w fun e w' => e = .returned (.int .i64 er) ∧ Turns w0 w w' L c s { s with S := S' } := by
  obtain ⟨oal, capl, bl, ol, rfl, -, -, -, -⟩ := hlv
  obtain ⟨i, hi⟩ : ∃ i : Nat, x.a = i := ⟨x.a.toNat, by omega⟩
  have hi16 : i < 16 := by omega
  have hi17 : (i : Int) < 16 := by omega
  have HI := Lib.hid hi
  obtain ⟨xop, xb, xc, nl, hxx⟩ : ∃ xop xb xc nl, x.op = xop ∧ x.b = xb ∧ x.c = xc ∧ x.l.length = nl := ⟨_, _, _, _, rfl, rfl, rfl, rfl⟩
  obtain ⟨hxop, hxb, hxc, hxl⟩ := hxx
  obtain ⟨b, bs, hrb⟩ := H.rb_cons hrs
  obtain ⟨y, hy⟩ : ∃ y, r.get i = y := ⟨_, rfl⟩
  rw [hi, hy] at hn
  have hR3 : clearR s.S y.p y.a y.n xc = (er, S') := by
    rw [changeR, hop, if_neg (by decide), if_neg (by decide), if_neg (by decide), if_pos rfl, hi, hy, hxc] at hR
    exact hR
  rw [hi, hop, hxb, hxc, hxl]
  clear hxop hxb hxc hxl hi hA hR hop
  obtain ⟨W, hW⟩ : ∃ W, W = w.alloc (.cells #[.int .i64 7, .int .i64 i, .int .i64 xb, .int .i64 xc, .slice oal nl capl] 84) := ⟨_, rfl⟩
  have hbW : Below w.heap.size w W := by rw [hW]; exact C.alloc_below _ _
  have hx0 : W.heap[w.heap.size]? = some (.cells #[.int .i64 7, .int .i64 i, .int .i64 xb, .int .i64 xc, .slice oal nl capl] 84) := by rw [hW, heap_alloc_new]
  have HS := H.under hbW
  obtain ⟨fv, hrun, -, hrl⟩ := HS.run hrs hrb
  obtain ⟨z0, z1, z2, z3, zf, zl⟩ := HS.ses4 hrb
  obtain ⟨fm, cm, hmm, -⟩ := HS.mach
  obtain ⟨m0, m1, m2, m3, m4, mf, ml⟩ := cells5 hmm
  obtain ⟨c0, c1, c2, cf, cl⟩ := reg_cells hrun hrl i hi16
  rw [hy] at c0 c1 c2
  have HRB := Lib.hid hrb
  have HRS := Lib.hid hrs
  clear hrun hrl hrs hrb hmm hy
  obtain ⟨B, hB⟩ : ∃ B, B = w.heap.size := ⟨_, rfl⟩
  have hBw : w.heap.size ≤ B := Nat.le_of_eq hB.symm
  rw [← hB] at hx0
  have hBl : B < W.heap.size := (Array.getElem?_eq_some_iff.1 hx0).1
  have hw00 := H.below.size
  go_enter Tryd.func57, Tryd.ntmps57
  go_upto_region 1 with fail
  rw [← hW]
  simp only [← hB]
  clear hW
  replace hB := Lib.hid hB
  have HX0 := Lib.hid hx0
  obtain ⟨x0, x1, x2, x3, x4, xf, xl⟩ := cells5 hx0
  have H7 := Lib.hid (HS.under (Below.refl W.heap.size W).drew)
  have HBW7 := Lib.hid (hbW.trans ((Below.refl W.heap.size W).drew.mono hbW.size))
  have hcl := Lib.hid (M.clear_gen H7.out.mem y.p y.a y.n xc er S' hR3 hn)
  clear hx0 HS hbW H
  go_upto_region 13 with fail
  go_still_tail 15, (by kernel_rfl)
  change wpList _ _ _ _ _ W.drew
  go_wp2_with (go_at_call 79; refine hcl.out.mono ?_; rintro e WW ⟨rfl, hT7⟩; have hfin := Lib.hid (Turns.under HBW7.out (Turns.mem H7.out hT7)); clear hT7)
  go_ret
  exact ⟨rfl, hfin.out⟩

set_option maxRecDepth 100000 in
set_option maxHeartbeats 4000000 in
theorem change_free {w0 w : World} {L : Ly} {c : Cx} {s : Se} {r : Ru} {rs : List Ru} (H : SesAt w0 w L c s) (hrs : s.rs = r :: rs) (x : In) (lv : Value) (hlv : C.IntsV w0 lv x.l) (hA : 0 ≤ x.a ∧ x.a < 16) (hop : x.op = 17) (er : Int) (S' : MS) (hR : changeR s.S r x = (er, S')) :
    Calls Tryd.prog 57 #[.pointer (some ⟨L.sk, 0, none⟩), .agg #[.int .i64 x.op, .int .i64 x.a, .int .i64 x.b, .int .i64 x.c, lv]] w fun e w' => e = .returned (.int .i64 er) ∧ Turns w0 w w' L c s { s with S := S' } := by
  obtain ⟨oal, capl, bl, ol, rfl, -, -, -, -⟩ := hlv
  obtain ⟨i, hi⟩ : ∃ i : Nat, x.a = i := ⟨x.a.toNat, by omega⟩
  have hi16 : i < 16 := by omega
  have hi17 : (i : Int) < 16 := by omega
  have HI := Lib.hid hi
  obtain ⟨xop, xb, xc, nl, hxx⟩ : ∃ xop xb xc nl, x.op = xop ∧ x.b = xb ∧ x.c = xc ∧ x.l.length = nl := ⟨_, _, _, _, rfl, rfl, rfl, rfl⟩
  obtain ⟨hxop, hxb, hxc, hxl⟩ := hxx
  obtain ⟨b, bs, hrb⟩ := H.rb_cons hrs
  obtain ⟨y, hy⟩ : ∃ y, r.get i = y := ⟨_, rfl⟩
  have hR3 : freeR s.S y.p y.a y.n = (er, S') := by
    rw [changeR, hop, if_neg (by decide), if_neg (by decide), if_neg (by decide), if_neg (by decide), hi, hy] at hR
    exact hR
  rw [hi, hop, hxb, hxc, hxl]
  clear hxop hxb hxc hxl hi hA hR hop
  obtain ⟨W, hW⟩ : ∃ W, W = w.alloc (.cells #[.int .i64 17, .int .i64 i, .int .i64 xb, .int .i64 xc, .slice oal nl capl] 84) := ⟨_, rfl⟩
  have hbW : Below w.heap.size w W := by rw [hW]; exact C.alloc_below _ _
  have hx0 : W.heap[w.heap.size]? = some (.cells #[.int .i64 17, .int .i64 i, .int .i64 xb, .int .i64 xc, .slice oal nl capl] 84) := by rw [hW, heap_alloc_new]
  have HS := H.under hbW
  obtain ⟨fv, hrun, -, hrl⟩ := HS.run hrs hrb
  obtain ⟨z0, z1, z2, z3, zf, zl⟩ := HS.ses4 hrb
  obtain ⟨fm, cm, hmm, -⟩ := HS.mach
  obtain ⟨m0, m1, m2, m3, m4, mf, ml⟩ := cells5 hmm
  obtain ⟨c0, c1, c2, cf, cl⟩ := reg_cells hrun hrl i hi16
  rw [hy] at c0 c1 c2
  have HRB := Lib.hid hrb
  have HRS := Lib.hid hrs
  clear hrun hrl hrs hrb hmm hy
  obtain ⟨B, hB⟩ : ∃ B, B = w.heap.size := ⟨_, rfl⟩
  have hBw : w.heap.size ≤ B := Nat.le_of_eq hB.symm
  rw [← hB] at hx0
  have hBl : B < W.heap.size := (Array.getElem?_eq_some_iff.1 hx0).1
  have hw00 := H.below.size
  go_enter Tryd.func57, Tryd.ntmps57
  go_upto_region 1 with fail
  rw [← hW]
  simp only [← hB]
  clear hW
  replace hB := Lib.hid hB
  have HX0 := Lib.hid hx0
  obtain ⟨x0, x1, x2, x3, x4, xf, xl⟩ := cells5 hx0
  have H7 := Lib.hid (HS.under (Below.refl W.heap.size W).drew)
  have HBW7 := Lib.hid (hbW.trans ((Below.refl W.heap.size W).drew.mono hbW.size))
  have hcl := Lib.hid (M.free_gen H7.out.mem y.p y.a y.n er S' hR3)
  clear hx0 HS hbW H
  go_upto_region 14 with fail
  go_still_tail 13, (by kernel_rfl)
  change wpList _ _ _ _ _ W.drew
  go_wp2_with (go_at_call 29; refine hcl.out.mono ?_; rintro e WW ⟨rfl, hT7⟩; have hfin := Lib.hid (Turns.under HBW7.out (Turns.mem H7.out hT7)); clear hT7)
  go_ret
  exact ⟨rfl, hfin.out⟩

set_option maxRecDepth 100000 in
set_option maxHeartbeats 4000000 in
theorem change_move {w0 w : World} {L : Ly} {c : Cx} {s : Se} {r : Ru} {rs : List Ru} (H : SesAt w0 w L c s) (hrs : s.rs = r :: rs) (x : In) (lv : Value) (hlv : C.IntsV w0 lv x.l) (hA : 0 ≤ x.a ∧ x.a < 16) (hB : 0 ≤ x.b ∧ x.b < 16) (hn : (r.get x.a).n ≤ 9223372036854775807) (hm : (r.get x.b).n ≤ 9223372036854775807) (hc : x.c ≤ 1048576) (hop : x.op = 6) (er : Int) (S' : MS) (hR : changeR s.S r x = (er, S')) :
    Calls Tryd.prog 57 #[.pointer (some ⟨L.sk, 0, none⟩), .agg #[.int .i64 x.op, .int .i64 x.a, .int .i64 x.b, .int .i64 x.c, lv]] w fun e w' => e = .returned (.int .i64 er) ∧ Turns w0 w w' L c s { s with S := S' } := by
  obtain ⟨oal, capl, bl, ol, rfl, -, -, -, -⟩ := hlv
  obtain ⟨i, hi⟩ : ∃ i : Nat, x.a = i := ⟨x.a.toNat, by omega⟩
  have hi16 : i < 16 := by omega
  have hi17 : (i : Int) < 16 := by omega
  have HI := Lib.hid hi
  obtain ⟨xop, xb, xc, nl, hxx⟩ : ∃ xop xb xc nl, x.op = xop ∧ x.b = xb ∧ x.c = xc ∧ x.l.length = nl := ⟨_, _, _, _, rfl, rfl, rfl, rfl⟩
  obtain ⟨hxop, hxb, hxc, hxl⟩ := hxx
  obtain ⟨ib, hib⟩ : ∃ ib : Nat, x.b = ib := ⟨x.b.toNat, by omega⟩
  have hj16 : ib < 16 := by omega
  have hj17 : (ib : Int) < 16 := by omega
  obtain ⟨z, hz⟩ : ∃ z, r.get ib = z := ⟨_, rfl⟩
  obtain ⟨b, bs, hrb⟩ := H.rb_cons hrs
  obtain ⟨y, hy⟩ : ∃ y, r.get i = y := ⟨_, rfl⟩
  rw [hi, hy] at hn
  rw [hib, hz] at hm
  rw [hxc] at hc
  obtain ⟨e1, S1, h51⟩ : ∃ e1 S1, copyR s.S y.p y.a y.n z.p z.a z.n xc = (e1, S1) := ⟨_, _, rfl⟩
  have HS5 : Hid ((e1 ≠ 0 → er = e1 ∧ S' = S1) ∧ (e1 = 0 → clearR S1 z.p z.a z.n xc = (er, S'))) := by
    rw [changeR, hop, if_neg (by decide), if_neg (by decide), if_pos rfl, hi, hib, hy, hz, hxc, h51] at hR
    by_cases he : e1 = 0
    · rw [if_neg (by simp [he])] at hR
      exact Lib.hid ⟨fun h => absurd he h, fun _ => hR⟩
    · rw [if_pos he] at hR
      cases hR
      exact Lib.hid ⟨fun _ => ⟨rfl, rfl⟩, fun h => absurd h he⟩
  rw [hi, hop, hib, hxc, hxl]
  clear hxop hxb hxc hxl hi hA hib hB hR hop
  obtain ⟨W, hW⟩ : ∃ W, W = w.alloc (.cells #[.int .i64 6, .int .i64 i, .int .i64 ib, .int .i64 xc, .slice oal nl capl] 84) := ⟨_, rfl⟩
  have hbW : Below w.heap.size w W := by rw [hW]; exact C.alloc_below _ _
  have hx0 : W.heap[w.heap.size]? = some (.cells #[.int .i64 6, .int .i64 i, .int .i64 ib, .int .i64 xc, .slice oal nl capl] 84) := by rw [hW, heap_alloc_new]
  have HS := H.under hbW
  obtain ⟨fv, hrun, -, hrl⟩ := HS.run hrs hrb
  obtain ⟨z0, z1, z2, z3, zf, zl⟩ := HS.ses4 hrb
  obtain ⟨fm, cm, hmm, -⟩ := HS.mach
  obtain ⟨m0, m1, m2, m3, m4, mf, ml⟩ := cells5 hmm
  obtain ⟨c0, c1, c2, cf, cl⟩ := reg_cells hrun hrl i hi16
  rw [hy] at c0 c1 c2
  obtain ⟨d0, d1, d2, -, -⟩ := reg_cells hrun hrl ib hj16
  rw [hz] at d0 d1 d2
  have HRUN := Lib.hid hrun
  have HRL := Lib.hid hrl
  have HZ := Lib.hid hz
  have hbo := Lib.hid (show ¬ Owned L.mb L.lm L.loc s.S b from not_owned HS.mem (by decide) hrun)
  have HRB := Lib.hid hrb
  have HRS := Lib.hid hrs
  clear hrun hrl hrs hrb hmm hy hz
  obtain ⟨B, hB⟩ : ∃ B, B = w.heap.size := ⟨_, rfl⟩
  have hBw : w.heap.size ≤ B := Nat.le_of_eq hB.symm
  rw [← hB] at hx0
  have hBl : B < W.heap.size := (Array.getElem?_eq_some_iff.1 hx0).1
  have hw00 := H.below.size
  go_enter Tryd.func57, Tryd.ntmps57
  go_upto_region 1 with fail
  rw [← hW]
  simp only [← hB]
  clear hW
  replace hB := Lib.hid hB
  have HX0 := Lib.hid hx0
  obtain ⟨x0, x1, x2, x3, x4, xf, xl⟩ := cells5 hx0
  have H7 := Lib.hid (HS.under (Below.refl W.heap.size W).drew)
  have HBW7 := Lib.hid (hbW.trans ((Below.refl W.heap.size W).drew.mono hbW.size))
  have hcl := Lib.hid (M.copy_gen H7.out.mem y.p y.a y.n z.p z.a z.n xc e1 S1 h51 hn hc)
  have HX7 := Lib.hid (keepB7 hx0 (Below.refl W.heap.size W).drew)
  clear hx0 HS hbW H
  go_upto_region 8 with fail
  go_still_tail 21, (by kernel_rfl)
  change wpList _ _ _ _ _ W.drew
  go_upto_region 9 with (go_at_call 78; refine hcl.out.mono ?_; rintro e W5 ⟨rfl, hT5⟩; have HM5 := Lib.hid hT5; clear hT5)
  all_goals
    have hT5 := Turns.mem H7.out HM5.out
    have HX5 := Lib.hid (hT5.local H7.out (t := 84) (by unfold Loc; decide) HX7.out)
    have HT5 := Lib.hid (Turns.under HBW7.out hT5)
    clear x0 x1 x2 x3 x4 xf xl z0 z1 z2 z3 zf zl m0 m1 m2 m3 m4 mf ml c0 c1 c2 cf cl d0 d1 d2
    by_cases he : e1 = 0
    · have t0 : (e1 != 0) = false := by simp [he]
      have hR5 := Lib.hid (HS5.out.2 he)
      obtain ⟨L1, f1, f2, f3, f4, H1, o1, k1⟩ := hT5
      obtain ⟨b1, bs1, hrb1⟩ := H1.rb_cons (show ({ s with S := S1 } : Se).rs = r :: rs from HRS.out)
      have hrun5 : W5.heap[b]? = some (.cells (ruC (upV bs) fv r).toArray 120) := by
        obtain ⟨_, _, _, _, hk⟩ := HM5.out
        exact (hk.block b (show b < W.heap.size from (Array.getElem?_eq_some_iff.1 HRUN.out).1) hbo.out).trans HRUN.out
      obtain ⟨z0, z1, z2, z3, zf, zl⟩ := H1.ses4 hrb1
      rw [f2] at z0 z1 z2 z3 zl
      simp only [f2] at zf
      obtain ⟨fm5, cm5, hmm, -⟩ := H1.mach
      obtain ⟨m0, m1, m2, m3, m4, mf, ml⟩ := cells5 hmm
      rw [f1] at z0 m0 m1 m2 m3 m4 ml
      simp only [f1] at mf
      rw [f3] at m2
      obtain ⟨d0, d1, d2, df, dl⟩ := reg_cells hrun5 HRL.out ib hj16
      rw [HZ.out] at d0 d1 d2
      obtain ⟨x0, x1, x2, x3, x4, xf, xl⟩ := cells5 HX5.out
      have H8 := Lib.hid (H1.under (Below.refl W5.heap.size W5).drew)
      have hcl8 := Lib.hid (M.clear_gen H8.out.mem z.p z.a z.n xc er S' hR5.out hm)
      rw [f3] at hcl8
      have HAF := Lib.hid (And.intro f1 (And.intro f2 (And.intro f3 (And.intro f4 (And.intro o1 k1)))))
      clear he hmm hrun5 hrb1 H1 o1 k1 f1 f2 f3 f4
      go_upto_region 11 with fail
      go_still_tail 15, (by kernel_rfl)
      change wpList _ _ _ _ _ W5.drew
      go_wp2_with (go_at_call 79; refine hcl8.out.mono ?_; rintro e WW ⟨rfl, hT7⟩; have hfin := Lib.hid (show Turns w0 w WW L c s { s with S := S' } from Turns.under HBW7.out (Turns.after HAF.out.1 HAF.out.2.1 HAF.out.2.2.1 HAF.out.2.2.2.1 HAF.out.2.2.2.2.1 HAF.out.2.2.2.2.2 (Turns.under (Below.refl W5.heap.size W5).drew (Turns.mem H8.out (by rw [HAF.out.2.2.1]; exact hT7))))); clear hT7)
      go_ret
      exact ⟨rfl, hfin.out⟩
    · have t0 : (e1 != 0) = true := by simpa using he
      obtain ⟨hR6, hR7⟩ := HS5.out.1 he
      have HT6 := Lib.hid (show Turns w0 w W5 L c s { s with S := S' } from by rw [hR7]; exact HT5.out)
      clear he hR7 hT5
      subst hR6
      go_wp2
      go_ret
      exact ⟨rfl, HT6.out⟩

theorem change_any {w0 w : World} {L : Ly} {c : Cx} {s : Se} {r : Ru} {rs : List Ru} (H : SesAt w0 w L c s) (hrs : s.rs = r :: rs) (x : In) (lv : Value) (hlv : C.IntsV w0 lv x.l) (hA : 0 ≤ x.a ∧ x.a < 16) (hop : x.op = 4 ∨ x.op = 5 ∨ x.op = 6 ∨ x.op = 7 ∨ x.op = 17)
    (hB : x.op = 4 ∨ x.op = 5 ∨ x.op = 6 → 0 ≤ x.b ∧ x.b < 16) (hC : x.op = 5 ∨ x.op = 6 → x.c ≤ 1048576) (hn : (r.get x.a).n ≤ 9223372036854775807) (hm : (r.get x.b).n ≤ 9223372036854775807) (er : Int) (S' : MS) (hR : changeR s.S r x = (er, S')) :
    Calls Tryd.prog 57 #[.pointer (some ⟨L.sk, 0, none⟩), .agg #[.int .i64 x.op, .int .i64 x.a, .int .i64 x.b, .int .i64 x.c, lv]] w fun e w' => e = .returned (.int .i64 er) ∧ Turns w0 w w' L c s { s with S := S' } := by
  rcases hop with h | h | h | h | h
  · exact change_store H hrs x lv hlv hA (hB (.inl h)) hn h er S' hR
  · exact change_copy H hrs x lv hlv hA (hB (.inr (.inl h))) hn (hC (.inl h)) h er S' hR
  · exact change_move H hrs x lv hlv hA (hB (.inr (.inr h))) hn hm (hC (.inr h)) h er S' hR
  · exact change_clear H hrs x lv hlv hA hn h er S' hR
  · exact change_free H hrs x lv hlv hA h er S' hR
end Go.Proofs.YtgpkhdccchpljaaDoor
