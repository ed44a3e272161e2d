/-
  end of package machine. Conditions: the session lies in the heap; the instruction is one that may be run.
-/
import Derived.Test.YtgpkhdccchpljaaDoorKWord
namespace Go.Proofs.YtgpkhdccchpljaaDoor
open Go.RowKit
open M (Wd MS RepAt Owned Kept Turned loadR storeR copyR clearR freeR allocR)
open C (In)

def endR (s : Se) (r : Ru) (rs : List Ru) (x : In) : Out × Se :=
  if x.op = 29 then (⟨2, 0⟩, { s with rs := rs })
  else if (storeR s.S r.fr.p r.fr.a r.fr.n (nm (if x.op = 28 then -2 else -1))).1 ≠ 0 then
    (stopO (storeR s.S r.fr.p r.fr.a r.fr.n (nm (if x.op = 28 then -2 else -1))).1, { s with S := (storeR s.S r.fr.p r.fr.a r.fr.n (nm (if x.op = 28 then -2 else -1))).2 })
  else (⟨if x.op = 28 then 3 else 2, 0⟩, { s with S := (storeR s.S r.fr.p r.fr.a r.fr.n (nm (if x.op = 28 then -2 else -1))).2, rs := rs })

set_option maxRecDepth 100000 in
set_option maxHeartbeats 4000000 in
theorem end_end {w0 w : World} {L : Ly} {c : Cx} {s : Se} {r : Ru} {rs : List Ru} (H : SesAt w0 w L c s) (hrs : s.rs = r :: rs) (x : In) (lv : Value) (hlv : C.IntsV w0 lv x.l) (hop : x.op = 29) :
    Calls Tryd.prog 63 #[.pointer (some ⟨L.sk, 0, none⟩), .agg #[.int .i64 x.op, .int .i64 x.a, .int .i64 x.b, .int .i64 x.c, lv]] w fun e w' => e = .returned (outV (endR s r rs x).1) ∧ Turns w0 w w' L c s (endR s r rs x).2 := by
  obtain ⟨oal, capl, bl, ol, rfl, -, -, -, -⟩ := hlv
  obtain ⟨xa, xb, xc, nl, hxx⟩ : ∃ xa xb xc nl, x.a = xa ∧ x.b = xb ∧ x.c = xc ∧ x.l.length = nl := ⟨_, _, _, _, rfl, rfl, rfl, rfl⟩
  obtain ⟨hxa, hxb, hxc, hxl⟩ := hxx
  obtain ⟨b, bs, hrb⟩ := H.rb_cons hrs
  have hs : Hid (endR s r rs x = (⟨2, 0⟩, { s with rs := rs })) := Lib.hid (by rw [endR, if_pos hop])
  have hlv' : s.leave = { s with rs := rs } := by rw [Se.leave, hrs]; rfl
  rw [hxa, hop, hxb, hxc, hxl]
  clear hxa hxb hxc hxl hop
  obtain ⟨W, hW⟩ : ∃ W, W = (w.alloc (.cells #[.int .i64 29, .int .i64 xa, .int .i64 xb, .int .i64 xc, .slice oal nl capl] 84)).alloc (.cells #[.int .i64 0, .int .i64 0] 41) := ⟨_, rfl⟩
  obtain ⟨hbW, hx0, hx1⟩ := al2 w (.cells #[.int .i64 29, .int .i64 xa, .int .i64 xb, .int .i64 xc, .slice oal nl capl] 84) (.cells #[.int .i64 0, .int .i64 0] 41)
  rw [← hW] at hbW hx0 hx1
  have HS := H.under hbW
  obtain ⟨B, hB⟩ : ∃ B, B = w.heap.size := ⟨_, rfl⟩
  have hBw : w.heap.size ≤ B := Nat.le_of_eq hB.symm
  rw [← hB] at hx0 hx1
  have hBl : B < W.heap.size := (Array.getElem?_eq_some_iff.1 hx0).1
  have hw00 := H.below.size
  go_enter Tryd.func63, Tryd.ntmps63
  go_upto_region 1 with fail
  rw [← hW]
  simp only [← hB]
  clear hW
  replace hB := Lib.hid hB
  have hb3 : Below W.heap.size W (W.alloc (.cells #[.int .i64 2, .int .i64 0] 41)) := C.alloc_below _ _
  have hy3 : (W.alloc (.cells #[.int .i64 2, .int .i64 0] 41)).heap[W.heap.size]? = some (.cells #[.int .i64 2, .int .i64 0] 41) := heap_alloc_new _ _
  have hX0 := keepB7 hx0 hb3
  have hX1 := keepB7 hx1 hb3
  have HS3 := Lib.hid (HS.under hb3)
  have HW3 := Lib.hid (hbW.trans (hb3.mono hbW.size))
  have HRB := Lib.hid hrb
  have HLV := Lib.hid hlv'
  obtain ⟨x0, x1, x2, x3, x4, xf, xl⟩ := cells5 hx0
  clear hb3 hx0 hx1 HS hbW hrb hlv' hrs H
  go_upto_region 2 with fail
  clear x0 x1 x2 x3 x4 xf xl
  generalize W.alloc (.cells #[.int .i64 2, .int .i64 0] 41) = W3 at HS3 HW3 hy3 hX0 hX1 ⊢
  generalize W.heap.size = b3 at hy3 ⊢
  have HX1 := Lib.hid hX1
  obtain ⟨x0, x1, x2, x3, x4, xf, xl⟩ := cells5 hX0
  obtain ⟨y0, y1, yf, yl⟩ := cells2 hy3
  have hlf := Lib.hid (leave_any HS3.out HRB.out ⟨2, 0⟩)
  rw [HLV.out, show outV ⟨2, 0⟩ = .agg #[.int .i64 2, .int .i64 0] from rfl] at hlf
  clear hX0 hX1 hy3
  go_wp2_with (go_at_call 65; refine hlf.out.mono ?_; rintro e WW ⟨rfl, hT7⟩; have hTW := Turns.under HW3.out hT7; have hrr := hT7.local HS3.out (t := 41) (by unfold Loc; decide) HX1.out; obtain ⟨hfz', hfin'⟩ := Turns.out hTW hw00 (by omega) hrr (.int .i64 2) (.int .i64 0); have hfz := Lib.hid hfz'; have hfin := Lib.hid hfin'; obtain ⟨r0, r1, rf, rl⟩ := cells2 hrr; clear hfz' hfin' hrr hTW hT7)
  have hf := hfz.out
  clear hfz
  generalize (World.setCell (World.setCell WW _ _) _ _) = WF at hf hfin ⊢
  obtain ⟨q0, q1, qf, ql⟩ := cells2 hf
  exact bodyPost_ret (v := outV ⟨2, 0⟩) (by simp [results, Tryd.results63, go_sem, q0, q1, outV]) rfl ⟨by rw [hs.out], by rw [hs.out]; exact hfin.out⟩

set_option maxRecDepth 100000 in
set_option maxHeartbeats 4000000 in
theorem end_return {w0 w : World} {L : Ly} {c : Cx} {s : Se} {r : Ru} {rs : List Ru} (H : SesAt w0 w L c s) (hrs : s.rs = r :: rs) (x : In) (lv : Value) (hlv : C.IntsV w0 lv x.l) (hn : r.fr.n ≤ 9223372036854775807) (hop : x.op = 27) :
    Calls Tryd.prog 63 #[.pointer (some ⟨L.sk, 0, none⟩), .agg #[.int .i64 x.op, .int .i64 x.a, .int .i64 x.b, .int .i64 x.c, lv]] w fun e w' => e = .returned (outV (endR s r rs x).1) ∧ Turns w0 w w' L c s (endR s r rs x).2 := by
  obtain ⟨oal, capl, bl, ol, rfl, -, -, -, -⟩ := hlv
  obtain ⟨xa, xb, xc, nl, hxx⟩ : ∃ xa xb xc nl, x.a = xa ∧ x.b = xb ∧ x.c = xc ∧ x.l.length = nl := ⟨_, _, _, _, rfl, rfl, rfl, rfl⟩
  obtain ⟨hxa, hxb, hxc, hxl⟩ := hxx
  obtain ⟨b, bs, hrb⟩ := H.rb_cons hrs
  obtain ⟨er, S1, hst1⟩ : ∃ er S1, storeR s.S r.fr.p r.fr.a r.fr.n (nm (-1)) = (er, S1) := ⟨_, _, rfl⟩
  have hs : Hid ((er ≠ 0 → endR s r rs x = (stopO er, { s with S := S1 })) ∧ (er = 0 → endR s r rs x = (⟨2, 0⟩, { s with S := S1, rs := rs }))) := Lib.hid (by
    rw [endR, hop, if_neg (by decide)]
    simp only [show (27 = (28 : Int)) ↔ False by decide, if_false, hst1]
    exact ⟨fun h => by rw [if_pos h], fun h => by rw [if_neg (by simp [h])]⟩)
  rw [hxa, hop, hxb, hxc, hxl]
  clear hxa hxb hxc hxl hop
  obtain ⟨W, hW⟩ : ∃ W, W = (w.alloc (.cells #[.int .i64 27, .int .i64 xa, .int .i64 xb, .int .i64 xc, .slice oal nl capl] 84)).alloc (.cells #[.int .i64 0, .int .i64 0] 41) := ⟨_, rfl⟩
  obtain ⟨hbW, hx0, hx1⟩ := al2 w (.cells #[.int .i64 27, .int .i64 xa, .int .i64 xb, .int .i64 xc, .slice oal nl capl] 84) (.cells #[.int .i64 0, .int .i64 0] 41)
  rw [← hW] at hbW hx0 hx1
  have HS := H.under hbW
  obtain ⟨z, hz⟩ : ∃ z, r.fr = z := ⟨_, rfl⟩
  rw [hz] at hn hst1
  obtain ⟨B, hB⟩ : ∃ B, B = w.heap.size := ⟨_, rfl⟩
  have hBw : w.heap.size ≤ B := Nat.le_of_eq hB.symm
  rw [← hB] at hx0 hx1
  have hBl : B < W.heap.size := (Array.getElem?_eq_some_iff.1 hx0).1
  have hw00 := H.below.size
  go_enter Tryd.func63, Tryd.ntmps63
  go_upto_region 1 with fail
  rw [← hW]
  simp only [← hB]
  clear hW
  replace hB := Lib.hid hB
  have hb3 : Below W.heap.size W (W.alloc (.cells #[.int .i64 2, .int .i64 0] 41)) := C.alloc_below _ _
  have hy3 : (W.alloc (.cells #[.int .i64 2, .int .i64 0] 41)).heap[W.heap.size]? = some (.cells #[.int .i64 2, .int .i64 0] 41) := heap_alloc_new _ _
  have hX0 := keepB7 hx0 hb3
  have hX1 := keepB7 hx1 hb3
  have HS3 := Lib.hid (HS.under hb3)
  have HW3 := Lib.hid (hbW.trans (hb3.mono hbW.size))
  have HRB := Lib.hid hrb
  have HRS := Lib.hid hrs
  have HZ := Lib.hid hz
  have hb3l : w.heap.size ≤ W.heap.size := hbW.size
  have hb3s : (W.alloc (.cells #[.int .i64 2, .int .i64 0] 41)).heap.size = W.heap.size + 1 := by simp
  obtain ⟨x0, x1, x2, x3, x4, xf, xl⟩ := cells5 hx0
  clear hb3 hx0 hx1 HS hbW hrb hrs H hz
  go_upto_region 2 with fail
  clear x0 x1 x2 x3 x4 xf xl
  generalize W.alloc (.cells #[.int .i64 2, .int .i64 0] 41) = W3 at HS3 HW3 hy3 hX0 hX1 hb3s ⊢
  generalize W.heap.size = b3 at hy3 hb3l hb3s ⊢
  have hy4 := hy3
  have HS4 := HS3
  have HW4 := HW3
  obtain ⟨x0, x1, x2, x3, x4, xf, xl⟩ := cells5 hX0
  go_upto_region 7 with fail
  clear x0 x1 x2 x3 x4 xf xl hy3 HS3 HW3
  generalize W3 = W4 at hy4 hX0 hX1 HS4 HW4 ⊢
  obtain ⟨fv, hrun, -, hrl⟩ := HS4.out.run HRS.out HRB.out
  obtain ⟨z0, z1, z2, z3, zf, zl⟩ := HS4.out.ses4 HRB.out
  obtain ⟨fm, cm, hmm, -⟩ := HS4.out.mach
  obtain ⟨m0, m1, m2, m3, m4, mf, ml⟩ := cells5 hmm
  obtain ⟨c0, c1, c2⟩ := fr_cells hrun
  have cl := (Array.getElem?_eq_some_iff.1 hrun).1
  rw [HZ.out] at c0 c1 c2
  have HY4 := Lib.hid hy4
  have HX4 := Lib.hid hX1
  have H7 := Lib.hid (HS4.out.under (Below.refl W4.heap.size W4).drew)
  have HBW7 := Lib.hid (HW4.out.trans ((Below.refl W4.heap.size W4).drew.mono HW4.out.size))
  have HY7 := Lib.hid (keepB7 hy4 (Below.refl W4.heap.size W4).drew)
  have HX7 := Lib.hid (keepB7 hX1 (Below.refl W4.heap.size W4).drew)
  have hcl := Lib.hid (M.store_gen H7.out.mem z.p z.a z.n (nm (-1)) er S1 hst1 hn)
  clear hrun hrl hmm hX0 hX1 hy4
  simp only [nm] at hcl
  go_region_with (go_at_call 55; refine hcl.out.mono ?_; rintro e W5 ⟨rfl, hT5⟩; have HM5 := Lib.hid hT5; clear hT5)
  all_goals
    have hT5 := Turns.mem H7.out HM5.out
    have HX5 := Lib.hid (hT5.local H7.out (t := 41) (by unfold Loc; decide) HX7.out)
    have HY5 := Lib.hid (hT5.local H7.out (t := 41) (by unfold Loc; decide) HY7.out)
    have HT5 := Lib.hid (Turns.under HBW7.out hT5)
    clear z0 z1 z2 z3 zf zl m0 m1 m2 m3 m4 mf ml c0 c1 c2 cl
    by_cases he : er = 0
    · have t0 : (er != 0) = false := by simp [he]
      have hsE := Lib.hid (hs.out.2 he)
      obtain ⟨L1, f1, f2, f3, f4, H1, o1, k1⟩ := hT5
      obtain ⟨b1, bs1, hrb1⟩ := H1.rb_cons (show ({ s with S := S1 } : Se).rs = r :: rs from HRS.out)
      have hlv' : ({ s with S := S1 } : Se).leave = { s with S := S1, rs := rs } := by rw [Se.leave]; simp only [HRS.out]; rfl
      have hlf := Lib.hid (leave_any H1 hrb1 ⟨2, 0⟩)
      rw [hlv', f2, show outV ⟨2, 0⟩ = .agg #[.int .i64 2, .int .i64 0] from rfl] at hlf
      have HH1 := Lib.hid H1
      have HAF := Lib.hid (And.intro f1 (And.intro f2 (And.intro f3 (And.intro f4 (And.intro o1 k1)))))
      obtain ⟨y0, y1, yf, yl⟩ := cells2 HY5.out
      clear he H1 hrb1 hlv' f1 f2 f3 f4 o1 k1
      go_wp2_with (go_at_call 65; refine hlf.out.mono ?_; rintro e WW ⟨rfl, hT7⟩; have hTW := Turns.under HBW7.out (Turns.after HAF.out.1 HAF.out.2.1 HAF.out.2.2.1 HAF.out.2.2.2.1 HAF.out.2.2.2.2.1 HAF.out.2.2.2.2.2 hT7); have hrr := hT7.local HH1.out (t := 41) (by unfold Loc; decide) HX5.out; obtain ⟨hfz', hfin'⟩ := Turns.out hTW hw00 (by omega) hrr (.int .i64 2) (.int .i64 0); have hfz := Lib.hid hfz'; have hfin := Lib.hid hfin'; obtain ⟨r0, r1, rf, rl⟩ := cells2 hrr; clear hfz' hfin' hrr hTW hT7)
      have hf := hfz.out
      clear hfz
      generalize (World.setCell (World.setCell WW _ _) _ _) = WF at hf hfin ⊢
      obtain ⟨q0, q1, qf, ql⟩ := cells2 hf
      exact bodyPost_ret (v := outV ⟨2, 0⟩) (by simp [results, Tryd.results63, go_sem, q0, q1, outV]) rfl ⟨by rw [hsE.out], by rw [hsE.out]; exact hfin.out⟩
    · have t0 : (er != 0) = true := by simpa using he
      have hsE := Lib.hid (hs.out.1 he)
      have hst := Lib.hid (stop_any er W5)
      obtain ⟨kk, hkk⟩ : ∃ kk, kk = (stopO er).k := ⟨_, rfl⟩
      obtain ⟨nn, hnn⟩ : ∃ nn, nn = (stopO er).n := ⟨_, rfl⟩
      rw [← hkk, ← hnn] at hst
      have HKN := Lib.hid (show outV (stopO er) = .agg #[.int .i64 kk, .int .i64 nn] by rw [outV, hkk, hnn])
      clear he hkk hnn hT5
      go_wp2_with (go_at_call 23; refine hst.out.mono ?_; rintro e WW ⟨rfl, hb7⟩; have hTW := Turns.below HT5.out hb7; have hrr := keepB7 HX5.out hb7; obtain ⟨hfz', hfin'⟩ := Turns.out hTW hw00 (by omega) hrr (.int .i64 kk) (.int .i64 nn); have hfz := Lib.hid hfz'; have hfin := Lib.hid hfin'; obtain ⟨r0, r1, rf, rl⟩ := cells2 hrr; clear hfz' hfin' hrr hTW hb7)
      have hf := hfz.out
      clear hfz
      generalize (World.setCell (World.setCell WW _ _) _ _) = WF at hf hfin ⊢
      obtain ⟨q0, q1, qf, ql⟩ := cells2 hf
      exact bodyPost_ret (v := .agg #[.int .i64 kk, .int .i64 nn]) (by simp [results, Tryd.results63, go_sem, q0, q1]) rfl ⟨by rw [hsE.out, HKN.out], by rw [hsE.out]; exact hfin.out⟩

set_option maxRecDepth 100000 in
set_option maxHeartbeats 4000000 in
theorem end_abort {w0 w : World} {L : Ly} {c : Cx} {s : Se} {r : Ru} {rs : List Ru} (H : SesAt w0 w L c s) (hrs : s.rs = r :: rs) (x : In) (lv : Value) (hlv : C.IntsV w0 lv x.l) (hn : r.fr.n ≤ 9223372036854775807) (hop : x.op = 28) :
    Calls Tryd.prog 63 #[.pointer (some ⟨L.sk, 0, none⟩), .agg #[.int .i64 x.op, .int .i64 x.a, .int .i64 x.b, .int .i64 x.c, lv]] w fun e w' => e = .returned (outV (endR s r rs x).1) ∧ Turns w0 w w' L c s (endR s r rs x).2 := by
  obtain ⟨oal, capl, bl, ol, rfl, -, -, -, -⟩ := hlv
  obtain ⟨xa, xb, xc, nl, hxx⟩ : ∃ xa xb xc nl, x.a = xa ∧ x.b = xb ∧ x.c = xc ∧ x.l.length = nl := ⟨_, _, _, _, rfl, rfl, rfl, rfl⟩
  obtain ⟨hxa, hxb, hxc, hxl⟩ := hxx
  obtain ⟨b, bs, hrb⟩ := H.rb_cons hrs
  obtain ⟨er, S1, hst1⟩ : ∃ er S1, storeR s.S r.fr.p r.fr.a r.fr.n (nm (-2)) = (er, S1) := ⟨_, _, rfl⟩
  have hs : Hid ((er ≠ 0 → endR s r rs x = (stopO er, { s with S := S1 })) ∧ (er = 0 → endR s r rs x = (⟨3, 0⟩, { s with S := S1, rs := rs }))) := Lib.hid (by
    rw [endR, hop, if_neg (by decide)]
    simp only [if_true, hst1]
    exact ⟨fun h => by rw [if_pos h], fun h => by rw [if_neg (by simp [h])]⟩)
  rw [hxa, hop, hxb, hxc, hxl]
  clear hxa hxb hxc hxl hop
  obtain ⟨W, hW⟩ : ∃ W, W = (w.alloc (.cells #[.int .i64 28, .int .i64 xa, .int .i64 xb, .int .i64 xc, .slice oal nl capl] 84)).alloc (.cells #[.int .i64 0, .int .i64 0] 41) := ⟨_, rfl⟩
  obtain ⟨hbW, hx0, hx1⟩ := al2 w (.cells #[.int .i64 28, .int .i64 xa, .int .i64 xb, .int .i64 xc, .slice oal nl capl] 84) (.cells #[.int .i64 0, .int .i64 0] 41)
  rw [← hW] at hbW hx0 hx1
  have HS := H.under hbW
  obtain ⟨z, hz⟩ : ∃ z, r.fr = z := ⟨_, rfl⟩
  rw [hz] at hn hst1
  obtain ⟨B, hB⟩ : ∃ B, B = w.heap.size := ⟨_, rfl⟩
  have hBw : w.heap.size ≤ B := Nat.le_of_eq hB.symm
  rw [← hB] at hx0 hx1
  have hBl : B < W.heap.size := (Array.getElem?_eq_some_iff.1 hx0).1
  have hw00 := H.below.size
  go_enter Tryd.func63, Tryd.ntmps63
  go_upto_region 1 with fail
  rw [← hW]
  simp only [← hB]
  clear hW
  replace hB := Lib.hid hB
  have hb3 : Below W.heap.size W (W.alloc (.cells #[.int .i64 2, .int .i64 0] 41)) := C.alloc_below _ _
  have hy3 : (W.alloc (.cells #[.int .i64 2, .int .i64 0] 41)).heap[W.heap.size]? = some (.cells #[.int .i64 2, .int .i64 0] 41) := heap_alloc_new _ _
  have hX0 := keepB7 hx0 hb3
  have hX1 := keepB7 hx1 hb3
  have HS3 := Lib.hid (HS.under hb3)
  have HW3 := Lib.hid (hbW.trans (hb3.mono hbW.size))
  have HRB := Lib.hid hrb
  have HRS := Lib.hid hrs
  have HZ := Lib.hid hz
  have hb3l : w.heap.size ≤ W.heap.size := hbW.size
  have hb3s : (W.alloc (.cells #[.int .i64 2, .int .i64 0] 41)).heap.size = W.heap.size + 1 := by simp
  obtain ⟨x0, x1, x2, x3, x4, xf, xl⟩ := cells5 hx0
  clear hb3 hx0 hx1 HS hbW hrb hrs H hz
  go_upto_region 2 with fail
  clear x0 x1 x2 x3 x4 xf xl
  generalize W.alloc (.cells #[.int .i64 2, .int .i64 0] 41) = W3 at HS3 HW3 hy3 hX0 hX1 hb3s ⊢
  generalize W.heap.size = b3 at hy3 hb3l hb3s ⊢
  obtain ⟨x0, x1, x2, x3, x4, xf, xl⟩ := cells5 hX0
  obtain ⟨y0, y1, yf, yl⟩ := cells2 hy3
  have hset : Hid (((W3.setCell ⟨b3, 0, none⟩ (.int .i64 3)).setCell ⟨b3, 1, none⟩ (.int .i64 0)).heap[b3]? = some (.cells #[.int .i64 3, .int .i64 0] 41)) := Lib.hid (set2 hy3)
  have hB3 : ∀ b, b ≠ b3 → ((W3.setCell ⟨b3, 0, none⟩ (.int .i64 3)).setCell ⟨b3, 1, none⟩ (.int .i64 0)).heap[b]? = W3.heap[b]? := fun b h => by rw [Below.heap_setCell _ _ _ _ h, Below.heap_setCell _ _ _ _ h]
  have hn0 : B ≠ b3 := fun e => by rw [e, hy3] at hX0; simp at hX0
  have hn1 : B + 1 ≠ b3 := fun e => by
    rw [e, hy3] at hX1
    simp at hX1
  have HX0' := Lib.hid ((hB3 B hn0).trans hX0)
  have HX1' := Lib.hid ((hB3 (B + 1) hn1).trans hX1)
  have HS4 := Lib.hid (((HS3.out.cell (t := 41) (by unfold Loc; decide) hy3 (by omega) 0 (.int .i64 3)).cell (t := 41) (by unfold Loc; decide) (heap_setCell_same W3 b3 0 _ 41 (.int .i64 3) hy3) (by omega) 1 (.int .i64 0)))
  have HW4 := Lib.hid ((HW3.out.setCell (p := ⟨b3, 0, none⟩) hb3l (.int .i64 3)).setCell (p := ⟨b3, 1, none⟩) hb3l (.int .i64 0))
  clear hX0 hX1 hy3 hB3 hn0 hn1 hb3s
  go_upto_region 7 with fail
  clear x0 x1 x2 x3 x4 xf xl y0 y1 yf yl
  generalize (W3.setCell ⟨b3, 0, none⟩ (.int .i64 3)).setCell ⟨b3, 1, none⟩ (.int .i64 0) = W4 at hset HX0' HX1' HS4 HW4 ⊢
  have hy4 := hset.out
  have hX0 := HX0'.out
  have hX1 := HX1'.out
  obtain ⟨fv, hrun, -, hrl⟩ := HS4.out.run HRS.out HRB.out
  obtain ⟨z0, z1, z2, z3, zf, zl⟩ := HS4.out.ses4 HRB.out
  obtain ⟨fm, cm, hmm, -⟩ := HS4.out.mach
  obtain ⟨m0, m1, m2, m3, m4, mf, ml⟩ := cells5 hmm
  obtain ⟨c0, c1, c2⟩ := fr_cells hrun
  have cl := (Array.getElem?_eq_some_iff.1 hrun).1
  rw [HZ.out] at c0 c1 c2
  have HY4 := Lib.hid hy4
  have HX4 := Lib.hid hX1
  have H7 := Lib.hid (HS4.out.under (Below.refl W4.heap.size W4).drew)
  have HBW7 := Lib.hid (HW4.out.trans ((Below.refl W4.heap.size W4).drew.mono HW4.out.size))
  have HY7 := Lib.hid (keepB7 hy4 (Below.refl W4.heap.size W4).drew)
  have HX7 := Lib.hid (keepB7 hX1 (Below.refl W4.heap.size W4).drew)
  have hcl := Lib.hid (M.store_gen H7.out.mem z.p z.a z.n (nm (-2)) er S1 hst1 hn)
  clear hrun hrl hmm hX0 hX1 hy4
  simp only [nm] at hcl
  go_region_with (go_at_call 55; refine hcl.out.mono ?_; rintro e W5 ⟨rfl, hT5⟩; have HM5 := Lib.hid hT5; clear hT5)
  all_goals
    have hT5 := Turns.mem H7.out HM5.out
    have HX5 := Lib.hid (hT5.local H7.out (t := 41) (by unfold Loc; decide) HX7.out)
    have HY5 := Lib.hid (hT5.local H7.out (t := 41) (by unfold Loc; decide) HY7.out)
    have HT5 := Lib.hid (Turns.under HBW7.out hT5)
    clear z0 z1 z2 z3 zf zl m0 m1 m2 m3 m4 mf ml c0 c1 c2 cl
    by_cases he : er = 0
    · have t0 : (er != 0) = false := by simp [he]
      have hsE := Lib.hid (hs.out.2 he)
      obtain ⟨L1, f1, f2, f3, f4, H1, o1, k1⟩ := hT5
      obtain ⟨b1, bs1, hrb1⟩ := H1.rb_cons (show ({ s with S := S1 } : Se).rs = r :: rs from HRS.out)
      have hlv' : ({ s with S := S1 } : Se).leave = { s with S := S1, rs := rs } := by rw [Se.leave]; simp only [HRS.out]; rfl
      have hlf := Lib.hid (leave_any H1 hrb1 ⟨3, 0⟩)
      rw [hlv', f2, show outV ⟨3, 0⟩ = .agg #[.int .i64 3, .int .i64 0] from rfl] at hlf
      have HH1 := Lib.hid H1
      have HAF := Lib.hid (And.intro f1 (And.intro f2 (And.intro f3 (And.intro f4 (And.intro o1 k1)))))
      obtain ⟨y0, y1, yf, yl⟩ := cells2 HY5.out
      clear he H1 hrb1 hlv' f1 f2 f3 f4 o1 k1
      go_wp2_with (go_at_call 65; refine hlf.out.mono ?_; rintro e WW ⟨rfl, hT7⟩; have hTW := Turns.under HBW7.out (Turns.after HAF.out.1 HAF.out.2.1 HAF.out.2.2.1 HAF.out.2.2.2.1 HAF.out.2.2.2.2.1 HAF.out.2.2.2.2.2 hT7); have hrr := hT7.local HH1.out (t := 41) (by unfold Loc; decide) HX5.out; obtain ⟨hfz', hfin'⟩ := Turns.out hTW hw00 (by omega) hrr (.int .i64 3) (.int .i64 0); have hfz := Lib.hid hfz'; have hfin := Lib.hid hfin'; obtain ⟨r0, r1, rf, rl⟩ := cells2 hrr; clear hfz' hfin' hrr hTW hT7)
      have hf := hfz.out
      clear hfz
      generalize (World.setCell (World.setCell WW _ _) _ _) = WF at hf hfin ⊢
      obtain ⟨q0, q1, qf, ql⟩ := cells2 hf
      exact bodyPost_ret (v := outV ⟨3, 0⟩) (by simp [results, Tryd.results63, go_sem, q0, q1, outV]) rfl ⟨by rw [hsE.out], by rw [hsE.out]; exact hfin.out⟩
    · have t0 : (er != 0) = true := by simpa using he
      have hsE := Lib.hid (hs.out.1 he)
      have hst := Lib.hid (stop_any er W5)
      obtain ⟨kk, hkk⟩ : ∃ kk, kk = (stopO er).k := ⟨_, rfl⟩
      obtain ⟨nn, hnn⟩ : ∃ nn, nn = (stopO er).n := ⟨_, rfl⟩
      rw [← hkk, ← hnn] at hst
      have HKN := Lib.hid (show outV (stopO er) = .agg #[.int .i64 kk, .int .i64 nn] by rw [outV, hkk, hnn])
      clear he hkk hnn hT5
      go_wp2_with (go_at_call 23; refine hst.out.mono ?_; rintro e WW ⟨rfl, hb7⟩; have hTW := Turns.below HT5.out hb7; have hrr := keepB7 HX5.out hb7; obtain ⟨hfz', hfin'⟩ := Turns.out hTW hw00 (by omega) hrr (.int .i64 kk) (.int .i64 nn); have hfz := Lib.hid hfz'; have hfin := Lib.hid hfin'; obtain ⟨r0, r1, rf, rl⟩ := cells2 hrr; clear hfz' hfin' hrr hTW hb7)
      have hf := hfz.out
      clear hfz
      generalize (World.setCell (World.setCell WW _ _) _ _) = WF at hf hfin ⊢
      obtain ⟨q0, q1, qf, ql⟩ := cells2 hf
      exact bodyPost_ret (v := .agg #[.int .i64 kk, .int .i64 nn]) (by simp [results, Tryd.results63, go_sem, q0, q1]) rfl ⟨by rw [hsE.out, HKN.out], by rw [hsE.out]; exact hfin.out⟩

theorem end_any {w0 w : World} {L : Ly} {c : Cx} {s : Se} {r : Ru} {rs : List Ru} (H : SesAt w0 w L c s) (hrs : s.rs = r :: rs) (x : In) (lv : Value) (hlv : C.IntsV w0 lv x.l) (hn : r.fr.n ≤ 9223372036854775807) (hop : x.op = 27 ∨ x.op = 28 ∨ x.op = 29) :
    Calls Tryd.prog 63 #[.pointer (some ⟨L.sk, 0, none⟩), .agg #[.int .i64 x.op, .int .i64 x.a, .int .i64 x.b, .int .i64 x.c, lv]] w fun e w' => e = .returned (outV (endR s r rs x).1) ∧ Turns w0 w w' L c s (endR s r rs x).2 := by
  rcases hop with h | h | h
  · exact end_return H hrs x lv hlv hn h
  · exact end_abort H hrs x lv hlv hn h
  · exact end_end H hrs x lv hlv h
end Go.Proofs.YtgpkhdccchpljaaDoor
