/-
  word of package machine. Conditions: the session lies in the heap; the instruction is one that may be run.
-/
import Derived.Test.YtgpkhdccchpljaaDoorKJStepped
namespace Go.Proofs.YtgpkhdccchpljaaDoor
open Go.RowKit
open M (Wd MS RepAt Owned Kept Turned loadR storeR copyR clearR freeR allocR)
open C (In)

theorem fr_cells {w : World} {b : Nat} {up fv : Value} {r : Ru} (h : w.heap[b]? = some (.cells (ruC up fv r).toArray 120)) : w.cell? ⟨b, 3, none⟩ = some (.bool r.fr.p) ∧ w.cell? ⟨b, 4, none⟩ = some (.int .i64 r.fr.a) ∧ w.cell? ⟨b, 5, none⟩ = some (.int .i64 r.fr.n) :=
  ⟨run_cell h rfl, run_cell h rfl, run_cell h rfl⟩
/-- a word is written into a local -/
theorem Turns.out3 {w0 w WW : World} {L : Ly} {c : Cx} {s s' : Se} (h : Turns w0 w WW L c s s') (hw : w0.heap.size ≤ w.heap.size) {B : Nat} (hB : w.heap.size ≤ B) {a0 a1 a2 : Value} (hr : WW.heap[B]? = some (.cells #[a0, a1, a2] 38)) (y : Wd) :
    (((WW.setCell ⟨B, 0, none⟩ (.bool y.p)).setCell ⟨B, 1, none⟩ (.int .i64 y.a)).setCell ⟨B, 2, none⟩ (.int .i64 y.n)).heap[B]? = some (.cells #[.bool y.p, .int .i64 y.a, .int .i64 y.n] 38) ∧ Turns w0 w (((WW.setCell ⟨B, 0, none⟩ (.bool y.p)).setCell ⟨B, 1, none⟩ (.int .i64 y.a)).setCell ⟨B, 2, none⟩ (.int .i64 y.n)) L c s s' := by
  have h1 := heap_setCell_same WW B 0 _ 38 (.bool y.p) hr
  have h2 := heap_setCell_same _ B 1 _ 38 (.int .i64 y.a) h1
  have h3 := heap_setCell_same _ B 2 _ 38 (.int .i64 y.n) h2
  exact ⟨by simpa using h3, ((h.cell hw (t := 38) (by unfold Loc; decide) hr hB 0 _).cell hw (t := 38) (by unfold Loc; decide) h1 hB 1 _).cell hw (t := 38) (by unfold Loc; decide) h2 hB 2 _⟩
theorem SesAt.kept_under {w0 w w' : World} {L : Ly} {c : Cx} {s : Se} (h : SesAt w0 w L c s) (hk : Kept (Owned L.mb L.lm L.loc s.S) w w') : Under w0 w' :=
  h.below.next hk.size fun b hl hf => hk.block b hl fun e => hf (h.own b (.inr (.inr (.inl e))))

set_option maxRecDepth 100000 in
set_option maxHeartbeats 4000000 in
theorem word_frame {w0 w : World} {L : Ly} {c : Cx} {s : Se} {r : Ru} {rs : List Ru} (H : SesAt w0 w L c s) (hrs : s.rs = r :: rs) (x : In) (lv : Value) (hlv : C.IntsV w0 lv x.l) (hA : 0 ≤ x.a ∧ x.a < 16) (hop : x.op = 1) (y : Wd) (er : Int) (S' : MS) (hR : wordR c.p s.S r x = ((y, er), S')) :
    Calls Tryd.prog 77 #[.pointer (some ⟨L.sk, 0, none⟩), .agg #[.int .i64 x.op, .int .i64 x.a, .int .i64 x.b, .int .i64 x.c, lv]] w fun e w' => e = .returned (.tuple #[.agg #[.bool y.p, .int .i64 y.a, .int .i64 y.n], .int .i64 er]) ∧ Turns w0 w w' L c s { s with S := S' } := by
  obtain ⟨oal, capl, bl, ol, rfl, -, -, -, -⟩ := hlv
  obtain ⟨i, hi⟩ : ∃ i : Nat, x.a = i := ⟨x.a.toNat, by omega⟩
  have hi16 : i < 16 := by omega
  have hi17 : (i : Int) < 16 := by omega
  have HI := Lib.hid hi
  obtain ⟨xop, xb, xc, nl, hxx⟩ : ∃ xop xb xc nl, x.op = xop ∧ x.b = xb ∧ x.c = xc ∧ x.l.length = nl := ⟨_, _, _, _, rfl, rfl, rfl, rfl⟩
  obtain ⟨hxop, hxb, hxc, hxl⟩ := hxx
  obtain ⟨b, bs, hrb⟩ := H.rb_cons hrs
  have hR2 : offR r.fr xb = (y, er) ∧ s.S = S' := by
    rw [wordR, hop, if_pos rfl, hxb] at hR
    simpa using hR
  obtain ⟨hR3, rfl⟩ := hR2
  rw [hi, hop, hxb, hxc, hxl]
  clear hxop hxb hxc hxl hi hA
  obtain ⟨W, hW⟩ : ∃ W, W = (w.alloc (.cells #[.int .i64 1, .int .i64 i, .int .i64 xb, .int .i64 xc, .slice oal nl capl] 84)).alloc (.cells #[.bool false, .int .i64 0, .int .i64 0] 38) := ⟨_, rfl⟩
  obtain ⟨hbW, hx0, hx1⟩ := al2 w (.cells #[.int .i64 1, .int .i64 i, .int .i64 xb, .int .i64 xc, .slice oal nl capl] 84) (.cells #[.bool false, .int .i64 0, .int .i64 0] 38)
  rw [← hW] at hbW hx0 hx1
  have HS := H.under hbW
  obtain ⟨fv, hrun, -, hrl⟩ := HS.run hrs hrb
  obtain ⟨z0, z1, z2, z3, zf, zl⟩ := HS.ses4 hrb
  obtain ⟨fm, cm, hmm, -⟩ := HS.mach
  obtain ⟨m0, m1, m2, m3, m4, mf, ml⟩ := cells5 hmm
  obtain ⟨c0, c1, c2⟩ := fr_cells hrun
  have cl := (Array.getElem?_eq_some_iff.1 hrun).1
  clear hrun hrl hrs hrb hmm
  obtain ⟨B, hB⟩ : ∃ B, B = w.heap.size := ⟨_, rfl⟩
  have hBw : w.heap.size ≤ B := Nat.le_of_eq hB.symm
  rw [← hB] at hx0 hx1
  have hBl : B < W.heap.size := (Array.getElem?_eq_some_iff.1 hx0).1
  have hw00 := H.below.size
  go_enter Tryd.func77, Tryd.ntmps77
  go_upto_region 1 with fail
  rw [← hW]
  simp only [← hB]
  clear hW
  replace hB := Lib.hid hB
  have HX1 := Lib.hid hx1
  obtain ⟨x0, x1, x2, x3, x4, xf, xl⟩ := cells5 hx0
  obtain ⟨r0, r1, r2, rf, rl⟩ := cells3 hx1
  have H7 := Lib.hid (HS.under (Below.refl W.heap.size W).drew)
  have HBW7 := Lib.hid (hbW.trans ((Below.refl W.heap.size W).drew.mono hbW.size))
  have HX17 := Lib.hid (keepB7 hx1 (Below.refl W.heap.size W).drew)
  have hcl := Lib.hid (off_any r.fr xb W.drew)
  rw [hR3] at hcl
  clear hx0 hx1 HS hbW H
  go_upto_region 4 with fail
  go_region_with (go_at_call 44; refine hcl.out.mono ?_; rintro e WW ⟨rfl, hT7⟩; have hT8 := Turns.same H7.out hT7; have hTW := Turns.under HBW7.out hT8; have hrr := hT8.local H7.out (t := 38) (by unfold Loc; decide) HX17.out; obtain ⟨hfz', hfin'⟩ := Turns.out3 hTW hw00 (by omega) hrr y; have hfz := Lib.hid hfz'; have hfin := Lib.hid hfin'; obtain ⟨r0, r1, r2, rf, rl⟩ := cells3 hrr; clear hfz' hfin' hrr hTW hT7 hT8)
  all_goals
    go_wp2
    have hf := hfz.out
    clear hfz
    generalize (World.setCell (World.setCell (World.setCell WW _ _) _ _) _ _) = WF at hf hfin ⊢
    obtain ⟨q0, q1, q2, qf, ql⟩ := cells3 hf
    exact bodyPost_ret (v := .tuple #[.agg #[.bool y.p, .int .i64 y.a, .int .i64 y.n], .int .i64 er]) (by simp [results, Tryd.results77, go_sem, q0, q1, q2]) rfl ⟨rfl, hfin.out⟩

set_option maxRecDepth 100000 in
set_option maxHeartbeats 4000000 in
theorem word_off {w0 w : World} {L : Ly} {c : Cx} {s : Se} {r : Ru} {rs : List Ru} (H : SesAt w0 w L c s) (hrs : s.rs = r :: rs) (x : In) (lv : Value) (hlv : C.IntsV w0 lv x.l) (hA : 0 ≤ x.a ∧ x.a < 16) (hB : 0 ≤ x.b ∧ x.b < 16) (hop : x.op = 2) (y : Wd) (er : Int) (S' : MS) (hR : wordR c.p s.S r x = ((y, er), S')) :
    Calls Tryd.prog 77 #[.pointer (some ⟨L.sk, 0, none⟩), .agg #[.int .i64 x.op, .int .i64 x.a, .int .i64 x.b, .int .i64 x.c, lv]] w fun e w' => e = .returned (.tuple #[.agg #[.bool y.p, .int .i64 y.a, .int .i64 y.n], .int .i64 er]) ∧ Turns w0 w w' L c s { s with S := S' } := by
  obtain ⟨oal, capl, bl, ol, rfl, -, -, -, -⟩ := hlv
  obtain ⟨i, hi⟩ : ∃ i : Nat, x.a = i := ⟨x.a.toNat, by omega⟩
  have hi16 : i < 16 := by omega
  have hi17 : (i : Int) < 16 := by omega
  have HI := Lib.hid hi
  obtain ⟨xop, xb, xc, nl, hxx⟩ : ∃ xop xb xc nl, x.op = xop ∧ x.b = xb ∧ x.c = xc ∧ x.l.length = nl := ⟨_, _, _, _, rfl, rfl, rfl, rfl⟩
  obtain ⟨hxop, hxb, hxc, hxl⟩ := hxx
  obtain ⟨ib, hib⟩ : ∃ ib : Nat, x.b = ib := ⟨x.b.toNat, by omega⟩
  have hj16 : ib < 16 := by omega
  have hj17 : (ib : Int) < 16 := by omega
  obtain ⟨b, bs, hrb⟩ := H.rb_cons hrs
  obtain ⟨z, hz⟩ : ∃ z, r.get ib = z := ⟨_, rfl⟩
  have hR2 : offR z xc = (y, er) ∧ s.S = S' := by
    rw [wordR, hop, if_neg (by decide), if_pos rfl, hib, hz, hxc] at hR
    simpa using hR
  obtain ⟨hR3, rfl⟩ := hR2
  rw [hi, hop, hib, hxc, hxl]
  clear hxop hxb hxc hxl hi hA hib hB
  obtain ⟨W, hW⟩ : ∃ W, W = (w.alloc (.cells #[.int .i64 2, .int .i64 i, .int .i64 ib, .int .i64 xc, .slice oal nl capl] 84)).alloc (.cells #[.bool false, .int .i64 0, .int .i64 0] 38) := ⟨_, rfl⟩
  obtain ⟨hbW, hx0, hx1⟩ := al2 w (.cells #[.int .i64 2, .int .i64 i, .int .i64 ib, .int .i64 xc, .slice oal nl capl] 84) (.cells #[.bool false, .int .i64 0, .int .i64 0] 38)
  rw [← hW] at hbW hx0 hx1
  have HS := H.under hbW
  obtain ⟨fv, hrun, -, hrl⟩ := HS.run hrs hrb
  obtain ⟨z0, z1, z2, z3, zf, zl⟩ := HS.ses4 hrb
  obtain ⟨fm, cm, hmm, -⟩ := HS.mach
  obtain ⟨m0, m1, m2, m3, m4, mf, ml⟩ := cells5 hmm
  obtain ⟨c0, c1, c2, cf, cl⟩ := reg_cells hrun hrl ib hj16
  rw [hz] at c0 c1 c2
  clear hz
  clear hrun hrl hrs hrb hmm
  obtain ⟨B, hB⟩ : ∃ B, B = w.heap.size := ⟨_, rfl⟩
  have hBw : w.heap.size ≤ B := Nat.le_of_eq hB.symm
  rw [← hB] at hx0 hx1
  have hBl : B < W.heap.size := (Array.getElem?_eq_some_iff.1 hx0).1
  have hw00 := H.below.size
  go_enter Tryd.func77, Tryd.ntmps77
  go_upto_region 1 with fail
  rw [← hW]
  simp only [← hB]
  clear hW
  replace hB := Lib.hid hB
  have HX1 := Lib.hid hx1
  obtain ⟨x0, x1, x2, x3, x4, xf, xl⟩ := cells5 hx0
  obtain ⟨r0, r1, r2, rf, rl⟩ := cells3 hx1
  have H7 := Lib.hid (HS.under (Below.refl W.heap.size W).drew)
  have HBW7 := Lib.hid (hbW.trans ((Below.refl W.heap.size W).drew.mono hbW.size))
  have HX17 := Lib.hid (keepB7 hx1 (Below.refl W.heap.size W).drew)
  have hcl := Lib.hid (off_any z xc W.drew)
  rw [hR3] at hcl
  clear hx0 hx1 HS hbW H
  go_upto_region 6 with fail
  go_region_with (go_at_call 44; refine hcl.out.mono ?_; rintro e WW ⟨rfl, hT7⟩; have hT8 := Turns.same H7.out hT7; have hTW := Turns.under HBW7.out hT8; have hrr := hT8.local H7.out (t := 38) (by unfold Loc; decide) HX17.out; obtain ⟨hfz', hfin'⟩ := Turns.out3 hTW hw00 (by omega) hrr y; have hfz := Lib.hid hfz'; have hfin := Lib.hid hfin'; obtain ⟨r0, r1, r2, rf, rl⟩ := cells3 hrr; clear hfz' hfin' hrr hTW hT7 hT8)
  all_goals
    go_wp2
    have hf := hfz.out
    clear hfz
    generalize (World.setCell (World.setCell (World.setCell WW _ _) _ _) _ _) = WF at hf hfin ⊢
    obtain ⟨q0, q1, q2, qf, ql⟩ := cells3 hf
    exact bodyPost_ret (v := .tuple #[.agg #[.bool y.p, .int .i64 y.a, .int .i64 y.n], .int .i64 er]) (by simp [results, Tryd.results77, go_sem, q0, q1, q2]) rfl ⟨rfl, hfin.out⟩

set_option maxRecDepth 100000 in
set_option maxHeartbeats 4000000 in
theorem word_load {w0 w : World} {L : Ly} {c : Cx} {s : Se} {r : Ru} {rs : List Ru} (H : SesAt w0 w L c s) (hrs : s.rs = r :: rs) (x : In) (lv : Value) (hlv : C.IntsV w0 lv x.l) (hA : 0 ≤ x.a ∧ x.a < 16) (hB : 0 ≤ x.b ∧ x.b < 16) (hop : x.op = 3) (y : Wd) (er : Int) (S' : MS) (hR : wordR c.p s.S r x = ((y, er), S')) :
    Calls Tryd.prog 77 #[.pointer (some ⟨L.sk, 0, none⟩), .agg #[.int .i64 x.op, .int .i64 x.a, .int .i64 x.b, .int .i64 x.c, lv]] w fun e w' => e = .returned (.tuple #[.agg #[.bool y.p, .int .i64 y.a, .int .i64 y.n], .int .i64 er]) ∧ Turns w0 w w' L c s { s with S := S' } := by
  obtain ⟨oal, capl, bl, ol, rfl, -, -, -, -⟩ := hlv
  obtain ⟨i, hi⟩ : ∃ i : Nat, x.a = i := ⟨x.a.toNat, by omega⟩
  have hi16 : i < 16 := by omega
  have hi17 : (i : Int) < 16 := by omega
  have HI := Lib.hid hi
  obtain ⟨xop, xb, xc, nl, hxx⟩ : ∃ xop xb xc nl, x.op = xop ∧ x.b = xb ∧ x.c = xc ∧ x.l.length = nl := ⟨_, _, _, _, rfl, rfl, rfl, rfl⟩
  obtain ⟨hxop, hxb, hxc, hxl⟩ := hxx
  obtain ⟨ib, hib⟩ : ∃ ib : Nat, x.b = ib := ⟨x.b.toNat, by omega⟩
  have hj16 : ib < 16 := by omega
  have hj17 : (ib : Int) < 16 := by omega
  obtain ⟨b, bs, hrb⟩ := H.rb_cons hrs
  obtain ⟨z, hz⟩ : ∃ z, r.get ib = z := ⟨_, rfl⟩
  have hR2 : loadR s.S z.p z.a z.n = (y, er) ∧ s.S = S' := by
    rw [wordR, hop, if_neg (by decide), if_neg (by decide), if_pos rfl, hib, hz] at hR
    simpa using hR
  obtain ⟨hR3, rfl⟩ := hR2
  rw [hi, hop, hib, hxc, hxl]
  clear hxop hxb hxc hxl hi hA hib hB
  obtain ⟨W, hW⟩ : ∃ W, W = (w.alloc (.cells #[.int .i64 3, .int .i64 i, .int .i64 ib, .int .i64 xc, .slice oal nl capl] 84)).alloc (.cells #[.bool false, .int .i64 0, .int .i64 0] 38) := ⟨_, rfl⟩
  obtain ⟨hbW, hx0, hx1⟩ := al2 w (.cells #[.int .i64 3, .int .i64 i, .int .i64 ib, .int .i64 xc, .slice oal nl capl] 84) (.cells #[.bool false, .int .i64 0, .int .i64 0] 38)
  rw [← hW] at hbW hx0 hx1
  have HS := H.under hbW
  obtain ⟨fv, hrun, -, hrl⟩ := HS.run hrs hrb
  obtain ⟨z0, z1, z2, z3, zf, zl⟩ := HS.ses4 hrb
  obtain ⟨fm, cm, hmm, -⟩ := HS.mach
  obtain ⟨m0, m1, m2, m3, m4, mf, ml⟩ := cells5 hmm
  obtain ⟨c0, c1, c2, cf, cl⟩ := reg_cells hrun hrl ib hj16
  rw [hz] at c0 c1 c2
  clear hz
  clear hrun hrl hrs hrb hmm
  obtain ⟨B, hB⟩ : ∃ B, B = w.heap.size := ⟨_, rfl⟩
  have hBw : w.heap.size ≤ B := Nat.le_of_eq hB.symm
  rw [← hB] at hx0 hx1
  have hBl : B < W.heap.size := (Array.getElem?_eq_some_iff.1 hx0).1
  have hw00 := H.below.size
  go_enter Tryd.func77, Tryd.ntmps77
  go_upto_region 1 with fail
  rw [← hW]
  simp only [← hB]
  clear hW
  replace hB := Lib.hid hB
  have HX1 := Lib.hid hx1
  obtain ⟨x0, x1, x2, x3, x4, xf, xl⟩ := cells5 hx0
  obtain ⟨r0, r1, r2, rf, rl⟩ := cells3 hx1
  have H7 := Lib.hid (HS.under (Below.refl W.heap.size W).drew)
  have HBW7 := Lib.hid (hbW.trans ((Below.refl W.heap.size W).drew.mono hbW.size))
  have HX17 := Lib.hid (keepB7 hx1 (Below.refl W.heap.size W).drew)
  have hcl := Lib.hid (M.load_any H7.out.mem z.p z.a z.n y er hR3)
  clear hx0 hx1 HS hbW H
  go_upto_region 8 with fail
  go_region_with (go_at_call 45; refine hcl.out.mono ?_; rintro e WW ⟨rfl, hT7⟩; have hT8 := Turns.same H7.out hT7; have hTW := Turns.under HBW7.out hT8; have hrr := hT8.local H7.out (t := 38) (by unfold Loc; decide) HX17.out; obtain ⟨hfz', hfin'⟩ := Turns.out3 hTW hw00 (by omega) hrr y; have hfz := Lib.hid hfz'; have hfin := Lib.hid hfin'; obtain ⟨r0, r1, r2, rf, rl⟩ := cells3 hrr; clear hfz' hfin' hrr hTW hT7 hT8)
  all_goals
    go_wp2
    have hf := hfz.out
    clear hfz
    generalize (World.setCell (World.setCell (World.setCell WW _ _) _ _) _ _) = WF at hf hfin ⊢
    obtain ⟨q0, q1, q2, qf, ql⟩ := cells3 hf
    exact bodyPost_ret (v := .tuple #[.agg #[.bool y.p, .int .i64 y.a, .int .i64 y.n], .int .i64 er]) (by simp [results, Tryd.results77, go_sem, q0, q1, q2]) rfl ⟨rfl, hfin.out⟩

set_option maxRecDepth 100000 in
set_option maxHeartbeats 4000000 in
theorem word_alloc {w0 w : World} {L : Ly} {c : Cx} {s : Se} {r : Ru} {rs : List Ru} (H : SesAt w0 w L c s) (hrs : s.rs = r :: rs) (x : In) (lv : Value) (hlv : C.IntsV w0 lv x.l) (hA : 0 ≤ x.a ∧ x.a < 16) (hmade : s.S.blocks.length + 1 < 1000000) (hop : x.op = 16) (y : Wd) (er : Int) (S' : MS) (hR : wordR c.p s.S r x = ((y, er), S')) :
    Calls Tryd.prog 77 #[.pointer (some ⟨L.sk, 0, none⟩), .agg #[.int .i64 x.op, .int .i64 x.a, .int .i64 x.b, .int .i64 x.c, lv]] w fun e w' => e = .returned (.tuple #[.agg #[.bool y.p, .int .i64 y.a, .int .i64 y.n], .int .i64 er]) ∧ Turns w0 w w' L c s { s with S := S' } := by
  obtain ⟨oal, capl, bl, ol, rfl, -, -, -, -⟩ := hlv
  obtain ⟨i, hi⟩ : ∃ i : Nat, x.a = i := ⟨x.a.toNat, by omega⟩
  have hi16 : i < 16 := by omega
  have hi17 : (i : Int) < 16 := by omega
  have HI := Lib.hid hi
  obtain ⟨xop, xb, xc, nl, hxx⟩ : ∃ xop xb xc nl, x.op = xop ∧ x.b = xb ∧ x.c = xc ∧ x.l.length = nl := ⟨_, _, _, _, rfl, rfl, rfl, rfl⟩
  obtain ⟨hxop, hxb, hxc, hxl⟩ := hxx
  obtain ⟨b, bs, hrb⟩ := H.rb_cons hrs
  have hR3 : allocR s.S xc = ((y, er), S') := by
    rw [wordR, hop, if_neg (by decide), if_neg (by decide), if_neg (by decide), if_pos rfl, hxc] at hR
    exact hR
  rw [hi, hop, hxb, hxc, hxl]
  clear hxop hxb hxc hxl hi hA
  obtain ⟨W, hW⟩ : ∃ W, W = (w.alloc (.cells #[.int .i64 16, .int .i64 i, .int .i64 xb, .int .i64 xc, .slice oal nl capl] 84)).alloc (.cells #[.bool false, .int .i64 0, .int .i64 0] 38) := ⟨_, rfl⟩
  obtain ⟨hbW, hx0, hx1⟩ := al2 w (.cells #[.int .i64 16, .int .i64 i, .int .i64 xb, .int .i64 xc, .slice oal nl capl] 84) (.cells #[.bool false, .int .i64 0, .int .i64 0] 38)
  rw [← hW] at hbW hx0 hx1
  have HS := H.under hbW
  obtain ⟨fv, hrun, -, hrl⟩ := HS.run hrs hrb
  obtain ⟨z0, z1, z2, z3, zf, zl⟩ := HS.ses4 hrb
  obtain ⟨fm, cm, hmm, -⟩ := HS.mach
  obtain ⟨m0, m1, m2, m3, m4, mf, ml⟩ := cells5 hmm
  have cl := (Array.getElem?_eq_some_iff.1 hrun).1
  clear hrun hrl hrs hrb hmm
  obtain ⟨B, hB⟩ : ∃ B, B = w.heap.size := ⟨_, rfl⟩
  have hBw : w.heap.size ≤ B := Nat.le_of_eq hB.symm
  rw [← hB] at hx0 hx1
  have hBl : B < W.heap.size := (Array.getElem?_eq_some_iff.1 hx0).1
  have hw00 := H.below.size
  go_enter Tryd.func77, Tryd.ntmps77
  go_upto_region 1 with fail
  rw [← hW]
  simp only [← hB]
  clear hW
  replace hB := Lib.hid hB
  have HX1 := Lib.hid hx1
  obtain ⟨x0, x1, x2, x3, x4, xf, xl⟩ := cells5 hx0
  obtain ⟨r0, r1, r2, rf, rl⟩ := cells3 hx1
  have H7 := Lib.hid (HS.under (Below.refl W.heap.size W).drew)
  have HBW7 := Lib.hid (hbW.trans ((Below.refl W.heap.size W).drew.mono hbW.size))
  have HX17 := Lib.hid (keepB7 hx1 (Below.refl W.heap.size W).drew)
  have hcl := Lib.hid (M.alloc_gen H7.out.mem hmade xc y er S' hR3)
  clear hx0 hx1 HS hbW H
  go_upto_region 10 with fail
  go_region_with (go_at_call 38; refine hcl.out.mono ?_; rintro e WW ⟨rfl, hT7⟩; have hT8 := Turns.mem H7.out hT7; have hTW := Turns.under HBW7.out hT8; have hrr := hT8.local H7.out (t := 38) (by unfold Loc; decide) HX17.out; obtain ⟨hfz', hfin'⟩ := Turns.out3 hTW hw00 (by omega) hrr y; have hfz := Lib.hid hfz'; have hfin := Lib.hid hfin'; obtain ⟨r0, r1, r2, rf, rl⟩ := cells3 hrr; clear hfz' hfin' hrr hTW hT7 hT8)
  all_goals
    go_wp2
    have hf := hfz.out
    clear hfz
    generalize (World.setCell (World.setCell (World.setCell WW _ _) _ _) _ _) = WF at hf hfin ⊢
    obtain ⟨q0, q1, q2, qf, ql⟩ := cells3 hf
    exact bodyPost_ret (v := .tuple #[.agg #[.bool y.p, .int .i64 y.a, .int .i64 y.n], .int .i64 er]) (by simp [results, Tryd.results77, go_sem, q0, q1, q2]) rfl ⟨rfl, hfin.out⟩

set_option maxRecDepth 100000 in
set_option maxHeartbeats 4000000 in
theorem word_start {w0 w : World} {L : Ly} {c : Cx} {s : Se} {r : Ru} {rs : List Ru} (H : SesAt w0 w L c s) (hrs : s.rs = r :: rs) (x : In) (lv : Value) (hlv : C.IntsV w0 lv x.l) (hA : 0 ≤ x.a ∧ x.a < 16) (hmade : s.S.blocks.length + 1 < 1000000) (hF : 0 ≤ x.b ∧ x.b < c.p.cs.length) (hop : x.op = 22) (y : Wd) (er : Int) (S' : MS) (hR : wordR c.p s.S r x = ((y, er), S')) :
    Calls Tryd.prog 77 #[.pointer (some ⟨L.sk, 0, none⟩), .agg #[.int .i64 x.op, .int .i64 x.a, .int .i64 x.b, .int .i64 x.c, lv]] w fun e w' => e = .returned (.tuple #[.agg #[.bool y.p, .int .i64 y.a, .int .i64 y.n], .int .i64 er]) ∧ Turns w0 w w' L c s { s with S := S' } := by
  obtain ⟨oal, capl, bl, ol, rfl, -, -, -, -⟩ := hlv
  obtain ⟨i, hi⟩ : ∃ i : Nat, x.a = i := ⟨x.a.toNat, by omega⟩
  have hi16 : i < 16 := by omega
  have hi17 : (i : Int) < 16 := by omega
  have HI := Lib.hid hi
  obtain ⟨xop, xb, xc, nl, hxx⟩ : ∃ xop xb xc nl, x.op = xop ∧ x.b = xb ∧ x.c = xc ∧ x.l.length = nl := ⟨_, _, _, _, rfl, rfl, rfl, rfl⟩
  obtain ⟨hxop, hxb, hxc, hxl⟩ := hxx
  obtain ⟨b, bs, hrb⟩ := H.rb_cons hrs
  obtain ⟨f, hf⟩ : ∃ f : Nat, x.b = f := ⟨x.b.toNat, by omega⟩
  have hf16 : f < c.p.cs.length := by omega
  have hR3 : frameR c.p s.S f [] = ((y, er), S') := by
    rw [wordR, hop, if_neg (by decide), if_neg (by decide), if_neg (by decide), if_neg (by decide), if_pos rfl, hf] at hR
    exact hR
  obtain ⟨cr, hcr⟩ : ∃ cr, c.p.cs[f]? = some cr := ⟨_, List.getElem?_eq_getElem hf16⟩
  rw [hi, hop, hf, hxc, hxl]
  clear hxop hxb hxc hxl hi hA hf hF
  obtain ⟨W, hW⟩ : ∃ W, W = (w.alloc (.cells #[.int .i64 22, .int .i64 i, .int .i64 f, .int .i64 xc, .slice oal nl capl] 84)).alloc (.cells #[.bool false, .int .i64 0, .int .i64 0] 38) := ⟨_, rfl⟩
  obtain ⟨hbW, hx0, hx1⟩ := al2 w (.cells #[.int .i64 22, .int .i64 i, .int .i64 f, .int .i64 xc, .slice oal nl capl] 84) (.cells #[.bool false, .int .i64 0, .int .i64 0] 38)
  rw [← hW] at hbW hx0 hx1
  have HS := H.under hbW
  obtain ⟨fv, hrun, -, hrl⟩ := HS.run hrs hrb
  obtain ⟨z0, z1, z2, z3, zf, zl⟩ := HS.ses4 hrb
  obtain ⟨fm, cm, hmm, -⟩ := HS.mach
  obtain ⟨m0, m1, m2, m3, m4, mf, ml⟩ := cells5 hmm
  have cl := (Array.getElem?_eq_some_iff.1 hrun).1
  clear hrun hrl hrs hrb hmm
  obtain ⟨B, hB⟩ : ∃ B, B = w.heap.size := ⟨_, rfl⟩
  have hBw : w.heap.size ≤ B := Nat.le_of_eq hB.symm
  rw [← hB] at hx0 hx1
  have hBl : B < W.heap.size := (Array.getElem?_eq_some_iff.1 hx0).1
  have hw00 := H.below.size
  go_enter Tryd.func77, Tryd.ntmps77
  go_upto_region 1 with fail
  rw [← hW]
  simp only [← hB]
  clear hW
  replace hB := Lib.hid hB
  have HX1 := Lib.hid hx1
  obtain ⟨x0, x1, x2, x3, x4, xf, xl⟩ := cells5 hx0
  obtain ⟨r0, r1, r2, rf, rl⟩ := cells3 hx1
  have H7 := Lib.hid (HS.under (Below.refl W.heap.size W).drew)
  have HBW7 := Lib.hid (hbW.trans ((Below.refl W.heap.size W).drew.mono hbW.size))
  have HX17 := Lib.hid (keepB7 hx1 (Below.refl W.heap.size W).drew)
  obtain ⟨oac, capc, hcl⟩ : ∃ oac capc, Hid (Calls Tryd.prog 24 #[.pointer (some ⟨L.mc, 0, none⟩), .int .i64 f, .slice none 0 0] W.drew fun e w' => e = .returned (.tuple #[.agg #[.bool y.p, .int .i64 y.a, .int .i64 y.n], .int .i64 er]) ∧ Turned W.drew w' L.mb L.lm L.loc s.S S' ∧ (oac : Option Addr) = oac ∧ (capc : Nat) = capc) := by
    obtain ⟨fm', cm', hm', hP'⟩ := H7.out.mach
    obtain ⟨oac, capc, bq, offq, hcm, -⟩ := hP'.2
    refine ⟨oac, capc, Lib.hid (.mono (frame_any (p := c.p) (oac := oac) (capc := capc) (oaa := none) (capa := 0) (mk := L.mc) H7.out.mem hmade f cr [] ?_ hcr y er S' hR3) fun e w' ⟨h1, h2⟩ => ⟨h1, h2, rfl, rfl⟩)⟩
    intro w' hk
    have hm2 := (hk.block L.mc (H7.out.lt _ (.inl rfl)) (not_owned H7.out.mem (by decide) hm')).trans hm'
    obtain ⟨g0, g1, g2, -, -, -, -⟩ := cells5 hm2
    have hu := pgV_under (H7.out.kept_under hk) hP'
    rw [hcm] at g1 hu
    exact ⟨g2, g1, hu.2, none, 0, 0, 0, rfl, Nat.le_refl _, Nat.zero_le _, fun h => absurd h (Nat.lt_irrefl _), fun i z hz => by simp at hz⟩
  clear hcr
  clear hx0 hx1 HS hbW H
  go_upto_region 12 with fail
  go_region_with (go_at_call 24; refine hcl.out.mono ?_; rintro e WW ⟨rfl, hT7⟩; have hT8 := Turns.mem H7.out hT7.1; have hTW := Turns.under HBW7.out hT8; have hrr := hT8.local H7.out (t := 38) (by unfold Loc; decide) HX17.out; obtain ⟨hfz', hfin'⟩ := Turns.out3 hTW hw00 (by omega) hrr y; have hfz := Lib.hid hfz'; have hfin := Lib.hid hfin'; obtain ⟨r0, r1, r2, rf, rl⟩ := cells3 hrr; clear hfz' hfin' hrr hTW hT7 hT8)
  all_goals
    go_wp2
    have hf := hfz.out
    clear hfz
    generalize (World.setCell (World.setCell (World.setCell WW _ _) _ _) _ _) = WF at hf hfin ⊢
    obtain ⟨q0, q1, q2, qf, ql⟩ := cells3 hf
    exact bodyPost_ret (v := .tuple #[.agg #[.bool y.p, .int .i64 y.a, .int .i64 y.n], .int .i64 er]) (by simp [results, Tryd.results77, go_sem, q0, q1, q2]) rfl ⟨rfl, hfin.out⟩

set_option maxRecDepth 100000 in
set_option maxHeartbeats 4000000 in
theorem word_const {w0 w : World} {L : Ly} {c : Cx} {s : Se} {r : Ru} {rs : List Ru} (H : SesAt w0 w L c s) (hrs : s.rs = r :: rs) (x : In) (lv : Value) (hlv : C.IntsV w0 lv x.l) (hA : 0 ≤ x.a ∧ x.a < 16) (hop : x.op = 0) (y : Wd) (er : Int) (S' : MS) (hR : wordR c.p s.S r x = ((y, er), S')) :
    Calls Tryd.prog 77 #[.pointer (some ⟨L.sk, 0, none⟩), .agg #[.int .i64 x.op, .int .i64 x.a, .int .i64 x.b, .int .i64 x.c, lv]] w fun e w' => e = .returned (.tuple #[.agg #[.bool y.p, .int .i64 y.a, .int .i64 y.n], .int .i64 er]) ∧ Turns w0 w w' L c s { s with S := S' } := by
  obtain ⟨oal, capl, bl, ol, rfl, -, -, -, -⟩ := hlv
  obtain ⟨i, hi⟩ : ∃ i : Nat, x.a = i := ⟨x.a.toNat, by omega⟩
  have hi16 : i < 16 := by omega
  have hi17 : (i : Int) < 16 := by omega
  have HI := Lib.hid hi
  obtain ⟨xop, xb, xc, nl, hxx⟩ : ∃ xop xb xc nl, x.op = xop ∧ x.b = xb ∧ x.c = xc ∧ x.l.length = nl := ⟨_, _, _, _, rfl, rfl, rfl, rfl⟩
  obtain ⟨hxop, hxb, hxc, hxl⟩ := hxx
  obtain ⟨b, bs, hrb⟩ := H.rb_cons hrs
  have hR2 : y = nm xb ∧ er = 0 ∧ s.S = S' := by
    rw [wordR, hop, if_neg (by decide), if_neg (by decide), if_neg (by decide), if_neg (by decide), if_neg (by decide), hxb] at hR
    simp only [Prod.mk.injEq] at hR
    exact ⟨hR.1.1.symm, hR.1.2.symm, hR.2⟩
  obtain ⟨rfl, rfl, rfl⟩ := hR2
  rw [hi, hop, hxb, hxc, hxl]
  clear hxop hxb hxc hxl hi hA
  obtain ⟨W, hW⟩ : ∃ W, W = (w.alloc (.cells #[.int .i64 0, .int .i64 i, .int .i64 xb, .int .i64 xc, .slice oal nl capl] 84)).alloc (.cells #[.bool false, .int .i64 0, .int .i64 0] 38) := ⟨_, rfl⟩
  obtain ⟨hbW, hx0, hx1⟩ := al2 w (.cells #[.int .i64 0, .int .i64 i, .int .i64 xb, .int .i64 xc, .slice oal nl capl] 84) (.cells #[.bool false, .int .i64 0, .int .i64 0] 38)
  rw [← hW] at hbW hx0 hx1
  have HS := H.under hbW
  obtain ⟨fv, hrun, -, hrl⟩ := HS.run hrs hrb
  obtain ⟨z0, z1, z2, z3, zf, zl⟩ := HS.ses4 hrb
  obtain ⟨fm, cm, hmm, -⟩ := HS.mach
  obtain ⟨m0, m1, m2, m3, m4, mf, ml⟩ := cells5 hmm
  have cl := (Array.getElem?_eq_some_iff.1 hrun).1
  clear hrun hrl hrs hrb hmm
  obtain ⟨B, hB⟩ : ∃ B, B = w.heap.size := ⟨_, rfl⟩
  have hBw : w.heap.size ≤ B := Nat.le_of_eq hB.symm
  rw [← hB] at hx0 hx1
  have hBl : B < W.heap.size := (Array.getElem?_eq_some_iff.1 hx0).1
  have hw00 := H.below.size
  go_enter Tryd.func77, Tryd.ntmps77
  go_upto_region 1 with fail
  rw [← hW]
  simp only [← hB]
  clear hW
  replace hB := Lib.hid hB
  have HX1 := Lib.hid hx1
  obtain ⟨x0, x1, x2, x3, x4, xf, xl⟩ := cells5 hx0
  obtain ⟨r0, r1, r2, rf, rl⟩ := cells3 hx1
  obtain ⟨hfz', hfin'⟩ := Turns.out3 (Turns.same H hbW) hw00 (by omega) hx1 (nm xb)
  have hfz := Lib.hid hfz'
  have hfin := Lib.hid hfin'
  simp only [nm] at hfz hfin
  clear hx0 hx1 HS hbW H hfz' hfin'
  go_wp2
  have hf := hfz.out
  clear hfz
  generalize (World.setCell (World.setCell (World.setCell W _ _) _ _) _ _) = WF at hf hfin ⊢
  obtain ⟨q0, q1, q2, qf, ql⟩ := cells3 hf
  exact bodyPost_ret (v := .tuple #[.agg #[.bool false, .int .i64 0, .int .i64 xb], .int .i64 0]) (by simp [results, Tryd.results77, go_sem, q0, q1, q2]) rfl ⟨rfl, hfin.out⟩

theorem word_any {w0 w : World} {L : Ly} {c : Cx} {s : Se} {r : Ru} {rs : List Ru} (H : SesAt w0 w L c s) (hrs : s.rs = r :: rs) (x : In) (lv : Value) (hlv : C.IntsV w0 lv x.l) (hA : 0 ≤ x.a ∧ x.a < 16) (hop : x.op = 0 ∨ x.op = 1 ∨ x.op = 2 ∨ x.op = 3 ∨ x.op = 16 ∨ x.op = 22)
    (hmade : s.S.blocks.length + 1 < 1000000) (hB : x.op = 2 ∨ x.op = 3 → 0 ≤ x.b ∧ x.b < 16) (hF : x.op = 22 → 0 ≤ x.b ∧ x.b < c.p.cs.length) (y : Wd) (er : Int) (S' : MS) (hR : wordR c.p s.S r x = ((y, er), S')) :
    Calls Tryd.prog 77 #[.pointer (some ⟨L.sk, 0, none⟩), .agg #[.int .i64 x.op, .int .i64 x.a, .int .i64 x.b, .int .i64 x.c, lv]] w fun e w' => e = .returned (.tuple #[.agg #[.bool y.p, .int .i64 y.a, .int .i64 y.n], .int .i64 er]) ∧ Turns w0 w w' L c s { s with S := S' } := by
  rcases hop with h | h | h | h | h | h
  · exact word_const H hrs x lv hlv hA h y er S' hR
  · exact word_frame H hrs x lv hlv hA h y er S' hR
  · exact word_off H hrs x lv hlv hA (hB (.inl h)) h y er S' hR
  · exact word_load H hrs x lv hlv hA (hB (.inr h)) h y er S' hR
  · exact word_alloc H hrs x lv hlv hA hmade h y er S' hR
  · exact word_start H hrs x lv hlv hA hmade (hF h) h y er S' hR
end Go.Proofs.YtgpkhdccchpljaaDoor
