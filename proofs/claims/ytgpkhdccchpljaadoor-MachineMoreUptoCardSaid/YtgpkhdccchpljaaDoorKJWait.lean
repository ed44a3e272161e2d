/-
  Several texts of the proof in one: KEnter, KTell, KWait. No conditions of their own: each lemma states its own.
-/
import Derived.Test.YtgpkhdccchpljaaDoorKJStepped
import Derived.Test.YtgpkhdccchpljaaDoorKJUndo
namespace Go.Proofs.YtgpkhdccchpljaaDoor
open Go.RowKit
open M (Wd MS RepAt Owned Kept Turned)
open C (In)

set_option maxRecDepth 100000 in
set_option maxHeartbeats 4000000 in
theorem begin_any2 {w0 w : World} {L : Ly} {c : Cx} {s : Se} (H : SesAt w0 w L c s) (f : Nat) (hf : f < c.p.fs.length) (x : Wd) :
    Calls Tryd.prog 43 #[.pointer (some ⟨L.sk, 0, none⟩), .int .i64 f, .agg #[.bool x.p, .int .i64 x.a, .int .i64 x.n]] w fun e w' => e = .returned (.tuple #[]) ∧ Turns w0 w w' L c s (s.begin c.p f x z3) ∧ ∀ q, q ≠ L.sk → q < w.heap.size → w'.heap[q]? = w.heap[q]? := by
  obtain ⟨W, hW⟩ : ∃ W, W = w.alloc (.cells #[.bool x.p, .int .i64 x.a, .int .i64 x.n] 38) := ⟨_, rfl⟩
  have hbW : Below w.heap.size w W := by rw [hW]; exact C.alloc_below _ _
  have hx : W.heap[w.heap.size]? = some (.cells #[.bool x.p, .int .i64 x.a, .int .i64 x.n] 38) := by rw [hW, heap_alloc_new]
  have HS := H.under hbW
  have hses := HS.ses
  rw [sesC] at hses
  obtain ⟨ua, hup⟩ : ∃ ua, upV L.rb = .pointer ua := by cases L.rb <;> exact ⟨_, rfl⟩
  rw [hup] at hses
  obtain ⟨fv, cv, hmc, hP⟩ := HS.mach
  obtain ⟨g, hg⟩ : ∃ g, c.p.fs[f]? = some g := ⟨_, List.getElem?_eq_getElem hf⟩
  have hgo : funOf c.p f = g := by simp [funOf, hg]
  obtain ⟨⟨oa, cap, bf, off, rfl, -, -, p3, p4⟩, -⟩ := hP
  obtain ⟨rfl, pb⟩ := p3 (by omega)
  obtain ⟨gv, k0, hG⟩ := p4 f g hg
  replace k0 := HS.below.cell' _ _ k0
  have hfl : bf < W.heap.size := Nat.lt_of_lt_of_le pb HS.below.size
  obtain ⟨z0, z1, z2, z3', zf, zl⟩ := cells4m hses
  obtain ⟨y0, y1, y2, y3, y4, yf, yl⟩ := cells5 hmc
  obtain ⟨x0, x1, x2, xf, xl⟩ := cells3 hx
  have hsl := H.lt L.sk (.inr (.inl rfl))
  have hml := H.lt L.mc (.inl rfl)
  have hlt : (f : Int) < c.p.fs.length := by omega
  have HT := Lib.hid (Turns.under hbW (Turns.push HS (r := ⟨g, 0, x, List.replicate 16 z3⟩) hG (by simp)))
  obtain ⟨oag, capg, hge⟩ : ∃ oag capg, gv = .slice oag g.length capg := by obtain ⟨a, b, _, _, h, _⟩ := hG; exact ⟨a, b, h⟩
  subst hge
  have HWB := Lib.hid hbW
  have HGO := Lib.hid hgo
  have HUP := Lib.hid hup
  obtain ⟨B, hB⟩ : ∃ B, B = w.heap.size := ⟨_, rfl⟩
  go_enter Tryd.func43, Tryd.ntmps43
  go_upto_region 1 with fail
  rw [← hW]
  clear hW hbW hx HS hses hmc hG p3 p4 hg hgo hup pb H hf
  rw [← hB] at x0 x1 x2 xl
  simp only [← hB] at xf ⊢
  replace hB := Lib.hid hB
  go_region
  have hT := HT.out
  rw [HUP.out, show (ruC (.pointer ua) (.slice oag g.length capg) ⟨g, 0, x, List.replicate 16 z3⟩).toArray = #[.pointer ua, .slice oag g.length capg, .int .i64 0, .bool x.p, .int .i64 x.a, .int .i64 x.n, .bool false, .int .i64 0, .int .i64 0, .bool false, .int .i64 0, .int .i64 0, .bool false, .int .i64 0, .int .i64 0, .bool false, .int .i64 0, .int .i64 0, .bool false, .int .i64 0, .int .i64 0, .bool false, .int .i64 0, .int .i64 0, .bool false, .int .i64 0, .int .i64 0, .bool false, .int .i64 0, .int .i64 0, .bool false, .int .i64 0, .int .i64 0, .bool false, .int .i64 0, .int .i64 0, .bool false, .int .i64 0, .int .i64 0, .bool false, .int .i64 0, .int .i64 0, .bool false, .int .i64 0, .int .i64 0, .bool false, .int .i64 0, .int .i64 0, .bool false, .int .i64 0, .int .i64 0, .bool false, .int .i64 0, .int .i64 0] from rfl] at hT
  have HTT := Lib.hid hT
  clear hT
  go_returns
  exact ⟨rfl, by rw [Se.begin, HGO.out]; exact HTT.out, fun q h1 h2 => (Below.heap_alloc _ _ _ (by have := HWB.out.size; simp [World.setCell]; omega)).trans ((Below.heap_setCell _ _ _ _ h1).trans (HWB.out.block q h2))⟩

def enterR (c : Cx) (s : Se) (r : Ru) (x : In) : Out × Se :=
  if x.op = 23 then goOnR c.p s (r.get x.a)
  else if x.op = 24 then goOnR c.p s (r.get x.b)
  else if x.op = 25 then undoR c.p s (r.get x.a)
  else (on, s.begin c.p x.b z3 (r.get x.a))

theorem begin_put (c : Cx) (s : Se) (f : Int) (y : Wd) : { s.begin c.p f z3 z3 with rs := (⟨funOf c.p f, 0, z3, List.replicate 16 z3⟩ : Ru).put (0 : Nat) y :: s.rs } = s.begin c.p f z3 y := by
  simp only [Se.begin, Ru.put, Int.toNat_natCast]
  rfl

set_option maxRecDepth 100000 in
set_option maxHeartbeats 4000000 in
theorem enter_poll {w0 w : World} {L : Ly} {c : Cx} {s : Se} {r : Ru} {rs : List Ru} (H : SesAt w0 w L c s) (hrs : s.rs = r :: rs) (hco : CoOk c.p) (x : In) (lv : Value) (hlv : C.IntsV w0 lv x.l) (hA : 0 ≤ x.a ∧ x.a < 16) (hop : x.op = 23) :
    Calls Tryd.prog 62 #[.pointer (some ⟨L.sk, 0, none⟩), .agg #[.int .i64 x.op, .int .i64 x.a, .int .i64 x.b, .int .i64 x.c, lv]] w fun e w' => e = .returned (outV (enterR c s r x).1) ∧ Turns w0 w w' L c s (enterR c s r x).2 := by
  obtain ⟨oal, capl, bl, ol, rfl, -, -, -, -⟩ := hlv
  obtain ⟨i, hi⟩ : ∃ i : Nat, x.a = i := ⟨x.a.toNat, by omega⟩
  have hi16 : i < 16 := by omega
  have hi17 : (i : Int) < 16 := by omega
  have HI := Lib.hid hi
  obtain ⟨xop, xb, xc, nl, hxx⟩ : ∃ xop xb xc nl, x.op = xop ∧ x.b = xb ∧ x.c = xc ∧ x.l.length = nl := ⟨_, _, _, _, rfl, rfl, rfl, rfl⟩
  obtain ⟨hxop, hxb, hxc, hxl⟩ := hxx
  obtain ⟨b, bs, hrb⟩ := H.rb_cons hrs
  obtain ⟨y, hy⟩ : ∃ y, r.get i = y := ⟨_, rfl⟩
  obtain ⟨gk, gn, s1, hg⟩ : ∃ gk gn s1, goOnR c.p s y = (⟨gk, gn⟩, s1) := ⟨_, _, _, rfl⟩
  have hs : Hid (enterR c s r x = (⟨gk, gn⟩, s1)) := Lib.hid (by simp only [enterR, hop, hi, hy]; exact hg)
  rw [hi, hop, hxb, hxc, hxl]
  clear hxop hxb hxc hxl hi hA
  obtain ⟨W, hW⟩ : ∃ W, W = (w.alloc (.cells #[.int .i64 23, .int .i64 i, .int .i64 xb, .int .i64 xc, .slice oal nl capl] 84)).alloc (.cells #[.int .i64 0, .int .i64 0] 41) := ⟨_, rfl⟩
  obtain ⟨hbW, hx0, hx1⟩ := al2 w (.cells #[.int .i64 23, .int .i64 i, .int .i64 xb, .int .i64 xc, .slice oal nl capl] 84) (.cells #[.int .i64 0, .int .i64 0] 41)
  rw [← hW] at hbW hx0 hx1
  have HS := H.under hbW
  obtain ⟨fv, hrun, -, hrl⟩ := HS.run hrs hrb
  obtain ⟨z0, z1, z2, z3, zf, zl⟩ := HS.ses4 hrb
  obtain ⟨c0, c1, c2, cf, cl⟩ := reg_cells hrun hrl i hi16
  rw [hy] at c0 c1 c2
  clear hrun hrl hy hrs hrb
  obtain ⟨B, hB⟩ : ∃ B, B = w.heap.size := ⟨_, rfl⟩
  have hBw : w.heap.size ≤ B := Nat.le_of_eq hB.symm
  rw [← hB] at hx0 hx1
  have hBl : B < W.heap.size := (Array.getElem?_eq_some_iff.1 hx0).1
  have hw00 := H.below.size
  go_enter Tryd.func62, Tryd.ntmps62
  go_upto_region 1 with fail
  rw [← hW]
  simp only [← hB]
  clear hW
  replace hB := Lib.hid hB
  have HX1 := Lib.hid hx1
  obtain ⟨x0, x1, x2, x3, x4, xf, xl⟩ := cells5 hx0
  obtain ⟨r0, r1, rf, rl⟩ := cells2 hx1
  have H7 := Lib.hid (HS.under (Below.refl W.heap.size W).drew)
  have HBW7 := Lib.hid (hbW.trans ((Below.refl W.heap.size W).drew.mono hbW.size))
  have HX17 := Lib.hid (keepB7 hx1 (Below.refl W.heap.size W).drew)
  have hcl := Lib.hid (goOn_any H7.out hco y)
  rw [hg, show outV ⟨gk, gn⟩ = .agg #[.int .i64 gk, .int .i64 gn] from rfl] at hcl
  clear hx0 hx1 HS hbW H hg
  go_upto_region 4 with fail
  go_region_with (go_at_call 26; refine hcl.out.mono ?_; rintro e WW ⟨rfl, hT7⟩; have hTW := Turns.under HBW7.out hT7; have hrr := hT7.local H7.out (t := 41) (by unfold Loc; decide) HX17.out; obtain ⟨hfz', hfin'⟩ := Turns.out hTW hw00 (by omega) hrr (.int .i64 gk) (.int .i64 gn); have hfz := Lib.hid hfz'; have hfin := Lib.hid hfin'; obtain ⟨r0, r1, rf, rl⟩ := cells2 hrr; clear hfz' hfin' hrr hTW hT7)
  all_goals
    go_wp2
    have hf := hfz.out
    clear hfz
    generalize (World.setCell (World.setCell WW _ _) _ _) = WF at hf hfin ⊢
    obtain ⟨q0, q1, qf, ql⟩ := cells2 hf
    exact bodyPost_ret (v := outV ⟨gk, gn⟩) (by simp [results, Tryd.results62, go_sem, q0, q1, outV]) rfl ⟨by rw [hs.out], by rw [hs.out]; exact hfin.out⟩

set_option maxRecDepth 100000 in
set_option maxHeartbeats 4000000 in
theorem enter_step {w0 w : World} {L : Ly} {c : Cx} {s : Se} {r : Ru} {rs : List Ru} (H : SesAt w0 w L c s) (hrs : s.rs = r :: rs) (hco : CoOk c.p) (x : In) (lv : Value) (hlv : C.IntsV w0 lv x.l) (hA : 0 ≤ x.a ∧ x.a < 16) (hB : 0 ≤ x.b ∧ x.b < 16) (hop : x.op = 24) :
    Calls Tryd.prog 62 #[.pointer (some ⟨L.sk, 0, none⟩), .agg #[.int .i64 x.op, .int .i64 x.a, .int .i64 x.b, .int .i64 x.c, lv]] w fun e w' => e = .returned (outV (enterR c s r x).1) ∧ Turns w0 w w' L c s (enterR c s r x).2 := by
  obtain ⟨oal, capl, bl, ol, rfl, -, -, -, -⟩ := hlv
  obtain ⟨i, hi⟩ : ∃ i : Nat, x.a = i := ⟨x.a.toNat, by omega⟩
  have hi16 : i < 16 := by omega
  have hi17 : (i : Int) < 16 := by omega
  have HI := Lib.hid hi
  obtain ⟨xop, xb, xc, nl, hxx⟩ : ∃ xop xb xc nl, x.op = xop ∧ x.b = xb ∧ x.c = xc ∧ x.l.length = nl := ⟨_, _, _, _, rfl, rfl, rfl, rfl⟩
  obtain ⟨hxop, hxb, hxc, hxl⟩ := hxx
  obtain ⟨ib, hib⟩ : ∃ ib : Nat, x.b = ib := ⟨x.b.toNat, by omega⟩
  have hj16 : ib < 16 := by omega
  have hj17 : (ib : Int) < 16 := by omega
  obtain ⟨b, bs, hrb⟩ := H.rb_cons hrs
  obtain ⟨y, hy⟩ : ∃ y, r.get ib = y := ⟨_, rfl⟩
  obtain ⟨gk, gn, s1, hg⟩ : ∃ gk gn s1, goOnR c.p s y = (⟨gk, gn⟩, s1) := ⟨_, _, _, rfl⟩
  have hs : Hid (enterR c s r x = (⟨gk, gn⟩, s1)) := Lib.hid (by simp only [enterR, hop, hib, hy]; exact hg)
  rw [hi, hop, hib, hxc, hxl]
  clear hxop hxc hxl hi hA hib hB
  obtain ⟨W, hW⟩ : ∃ W, W = (w.alloc (.cells #[.int .i64 24, .int .i64 i, .int .i64 ib, .int .i64 xc, .slice oal nl capl] 84)).alloc (.cells #[.int .i64 0, .int .i64 0] 41) := ⟨_, rfl⟩
  obtain ⟨hbW, hx0, hx1⟩ := al2 w (.cells #[.int .i64 24, .int .i64 i, .int .i64 ib, .int .i64 xc, .slice oal nl capl] 84) (.cells #[.int .i64 0, .int .i64 0] 41)
  rw [← hW] at hbW hx0 hx1
  have HS := H.under hbW
  obtain ⟨fv, hrun, -, hrl⟩ := HS.run hrs hrb
  obtain ⟨z0, z1, z2, z3, zf, zl⟩ := HS.ses4 hrb
  obtain ⟨c0, c1, c2, cf, cl⟩ := reg_cells hrun hrl ib hj16
  rw [hy] at c0 c1 c2
  clear hrun hrl hy hrs hrb
  obtain ⟨B, hB⟩ : ∃ B, B = w.heap.size := ⟨_, rfl⟩
  have hBw : w.heap.size ≤ B := Nat.le_of_eq hB.symm
  rw [← hB] at hx0 hx1
  have hBl : B < W.heap.size := (Array.getElem?_eq_some_iff.1 hx0).1
  have hw00 := H.below.size
  go_enter Tryd.func62, Tryd.ntmps62
  go_upto_region 1 with fail
  rw [← hW]
  simp only [← hB]
  clear hW
  replace hB := Lib.hid hB
  have HX1 := Lib.hid hx1
  obtain ⟨x0, x1, x2, x3, x4, xf, xl⟩ := cells5 hx0
  obtain ⟨r0, r1, rf, rl⟩ := cells2 hx1
  have H7 := Lib.hid (HS.under (Below.refl W.heap.size W).drew)
  have HBW7 := Lib.hid (hbW.trans ((Below.refl W.heap.size W).drew.mono hbW.size))
  have HX17 := Lib.hid (keepB7 hx1 (Below.refl W.heap.size W).drew)
  have hcl := Lib.hid (goOn_any H7.out hco y)
  rw [hg, show outV ⟨gk, gn⟩ = .agg #[.int .i64 gk, .int .i64 gn] from rfl] at hcl
  clear hx0 hx1 HS hbW H hg
  go_upto_region 6 with fail
  go_region_with (go_at_call 26; refine hcl.out.mono ?_; rintro e WW ⟨rfl, hT7⟩; have hTW := Turns.under HBW7.out hT7; have hrr := hT7.local H7.out (t := 41) (by unfold Loc; decide) HX17.out; obtain ⟨hfz', hfin'⟩ := Turns.out hTW hw00 (by omega) hrr (.int .i64 gk) (.int .i64 gn); have hfz := Lib.hid hfz'; have hfin := Lib.hid hfin'; obtain ⟨r0, r1, rf, rl⟩ := cells2 hrr; clear hfz' hfin' hrr hTW hT7)
  all_goals
    go_wp2
    have hf := hfz.out
    clear hfz
    generalize (World.setCell (World.setCell WW _ _) _ _) = WF at hf hfin ⊢
    obtain ⟨q0, q1, qf, ql⟩ := cells2 hf
    exact bodyPost_ret (v := outV ⟨gk, gn⟩) (by simp [results, Tryd.results62, go_sem, q0, q1, outV]) rfl ⟨by rw [hs.out], by rw [hs.out]; exact hfin.out⟩

set_option maxRecDepth 100000 in
set_option maxHeartbeats 4000000 in
theorem enter_cancel {w0 w : World} {L : Ly} {c : Cx} {s : Se} {r : Ru} {rs : List Ru} (H : SesAt w0 w L c s) (hrs : s.rs = r :: rs) (hco : CoOk c.p) (x : In) (lv : Value) (hlv : C.IntsV w0 lv x.l) (hA : 0 ≤ x.a ∧ x.a < 16) (hop : x.op = 25) :
    Calls Tryd.prog 62 #[.pointer (some ⟨L.sk, 0, none⟩), .agg #[.int .i64 x.op, .int .i64 x.a, .int .i64 x.b, .int .i64 x.c, lv]] w fun e w' => e = .returned (outV (enterR c s r x).1) ∧ Turns w0 w w' L c s (enterR c s r x).2 := by
  obtain ⟨oal, capl, bl, ol, rfl, -, -, -, -⟩ := hlv
  obtain ⟨i, hi⟩ : ∃ i : Nat, x.a = i := ⟨x.a.toNat, by omega⟩
  have hi16 : i < 16 := by omega
  have hi17 : (i : Int) < 16 := by omega
  have HI := Lib.hid hi
  obtain ⟨xop, xb, xc, nl, hxx⟩ : ∃ xop xb xc nl, x.op = xop ∧ x.b = xb ∧ x.c = xc ∧ x.l.length = nl := ⟨_, _, _, _, rfl, rfl, rfl, rfl⟩
  obtain ⟨hxop, hxb, hxc, hxl⟩ := hxx
  obtain ⟨b, bs, hrb⟩ := H.rb_cons hrs
  obtain ⟨y, hy⟩ : ∃ y, r.get i = y := ⟨_, rfl⟩
  obtain ⟨gk, gn, s1, hg⟩ : ∃ gk gn s1, undoR c.p s y = (⟨gk, gn⟩, s1) := ⟨_, _, _, rfl⟩
  have hs : Hid (enterR c s r x = (⟨gk, gn⟩, s1)) := Lib.hid (by simp only [enterR, hop, hi, hy]; exact hg)
  rw [hi, hop, hxb, hxc, hxl]
  clear hxop hxb hxc hxl hi hA
  obtain ⟨W, hW⟩ : ∃ W, W = (w.alloc (.cells #[.int .i64 25, .int .i64 i, .int .i64 xb, .int .i64 xc, .slice oal nl capl] 84)).alloc (.cells #[.int .i64 0, .int .i64 0] 41) := ⟨_, rfl⟩
  obtain ⟨hbW, hx0, hx1⟩ := al2 w (.cells #[.int .i64 25, .int .i64 i, .int .i64 xb, .int .i64 xc, .slice oal nl capl] 84) (.cells #[.int .i64 0, .int .i64 0] 41)
  rw [← hW] at hbW hx0 hx1
  have HS := H.under hbW
  obtain ⟨fv, hrun, -, hrl⟩ := HS.run hrs hrb
  obtain ⟨z0, z1, z2, z3, zf, zl⟩ := HS.ses4 hrb
  obtain ⟨c0, c1, c2, cf, cl⟩ := reg_cells hrun hrl i hi16
  rw [hy] at c0 c1 c2
  clear hrun hrl hy hrs hrb
  obtain ⟨B, hB⟩ : ∃ B, B = w.heap.size := ⟨_, rfl⟩
  have hBw : w.heap.size ≤ B := Nat.le_of_eq hB.symm
  rw [← hB] at hx0 hx1
  have hBl : B < W.heap.size := (Array.getElem?_eq_some_iff.1 hx0).1
  have hw00 := H.below.size
  go_enter Tryd.func62, Tryd.ntmps62
  go_upto_region 1 with fail
  rw [← hW]
  simp only [← hB]
  clear hW
  replace hB := Lib.hid hB
  have HX1 := Lib.hid hx1
  obtain ⟨x0, x1, x2, x3, x4, xf, xl⟩ := cells5 hx0
  obtain ⟨r0, r1, rf, rl⟩ := cells2 hx1
  have H7 := Lib.hid (HS.under (Below.refl W.heap.size W).drew)
  have HBW7 := Lib.hid (hbW.trans ((Below.refl W.heap.size W).drew.mono hbW.size))
  have HX17 := Lib.hid (keepB7 hx1 (Below.refl W.heap.size W).drew)
  have hcl := Lib.hid (undo_any H7.out hco y)
  rw [hg, show outV ⟨gk, gn⟩ = .agg #[.int .i64 gk, .int .i64 gn] from rfl] at hcl
  clear hx0 hx1 HS hbW H hg
  go_upto_region 8 with fail
  go_region_with (go_at_call 28; refine hcl.out.mono ?_; rintro e WW ⟨rfl, hT7⟩; have hTW := Turns.under HBW7.out hT7; have hrr := hT7.local H7.out (t := 41) (by unfold Loc; decide) HX17.out; obtain ⟨hfz', hfin'⟩ := Turns.out hTW hw00 (by omega) hrr (.int .i64 gk) (.int .i64 gn); have hfz := Lib.hid hfz'; have hfin := Lib.hid hfin'; obtain ⟨r0, r1, rf, rl⟩ := cells2 hrr; clear hfz' hfin' hrr hTW hT7)
  all_goals
    go_wp2
    have hf := hfz.out
    clear hfz
    generalize (World.setCell (World.setCell WW _ _) _ _) = WF at hf hfin ⊢
    obtain ⟨q0, q1, qf, ql⟩ := cells2 hf
    exact bodyPost_ret (v := outV ⟨gk, gn⟩) (by simp [results, Tryd.results62, go_sem, q0, q1, outV]) rfl ⟨by rw [hs.out], by rw [hs.out]; exact hfin.out⟩

set_option maxRecDepth 100000 in
set_option maxHeartbeats 4000000 in
theorem enter_call {w0 w : World} {L : Ly} {c : Cx} {s : Se} {r : Ru} {rs : List Ru} (H : SesAt w0 w L c s) (hrs : s.rs = r :: rs) (x : In) (lv : Value) (hlv : C.IntsV w0 lv x.l) (hA : 0 ≤ x.a ∧ x.a < 16) (hF : 0 ≤ x.b ∧ x.b < c.p.fs.length) (hop : x.op = 26) :
    Calls Tryd.prog 62 #[.pointer (some ⟨L.sk, 0, none⟩), .agg #[.int .i64 x.op, .int .i64 x.a, .int .i64 x.b, .int .i64 x.c, lv]] w fun e w' => e = .returned (outV (enterR c s r x).1) ∧ Turns w0 w w' L c s (enterR c s r x).2 := by
  obtain ⟨oal, capl, bl, ol, rfl, -, -, -, -⟩ := hlv
  obtain ⟨i, hi⟩ : ∃ i : Nat, x.a = i := ⟨x.a.toNat, by omega⟩
  have hi16 : i < 16 := by omega
  have hi17 : (i : Int) < 16 := by omega
  have HI := Lib.hid hi
  obtain ⟨xop, xb, xc, nl, hxx⟩ : ∃ xop xb xc nl, x.op = xop ∧ x.b = xb ∧ x.c = xc ∧ x.l.length = nl := ⟨_, _, _, _, rfl, rfl, rfl, rfl⟩
  obtain ⟨hxop, hxb, hxc, hxl⟩ := hxx
  obtain ⟨f, hf⟩ : ∃ f : Nat, x.b = f := ⟨x.b.toNat, by omega⟩
  have hf16 : f < c.p.fs.length := by omega
  obtain ⟨b, bs, hrb⟩ := H.rb_cons hrs
  obtain ⟨y, hy⟩ : ∃ y, r.get i = y := ⟨_, rfl⟩
  have hs : Hid (enterR c s r x = (on, s.begin c.p f z3 y)) := Lib.hid (by simp only [enterR, hop, hi, hf, hy]; rfl)
  rw [hi, hop, hf, hxc, hxl]
  clear hxop hxb hxc hxl hi hA hF hf
  obtain ⟨W, hW⟩ : ∃ W, W = (w.alloc (.cells #[.int .i64 26, .int .i64 i, .int .i64 f, .int .i64 xc, .slice oal nl capl] 84)).alloc (.cells #[.int .i64 0, .int .i64 0] 41) := ⟨_, rfl⟩
  obtain ⟨hbW, hx0, hx1⟩ := al2 w (.cells #[.int .i64 26, .int .i64 i, .int .i64 f, .int .i64 xc, .slice oal nl capl] 84) (.cells #[.int .i64 0, .int .i64 0] 41)
  rw [← hW] at hbW hx0 hx1
  have HS := H.under hbW
  obtain ⟨fv, hrun, -, hrl⟩ := HS.run hrs hrb
  obtain ⟨z0, z1, z2, z3', zf, zl⟩ := HS.ses4 hrb
  have HRS := Lib.hid hrs
  have HRUN := Lib.hid hrun
  have HRL := Lib.hid hrl
  have HY := Lib.hid hy
  have cl := (Array.getElem?_eq_some_iff.1 hrun).1
  have hbsk : b ≠ L.sk := fun e => HS.ses_ne.2.2.2.2 (by rw [hrb, e]; simp)
  clear hrun hrl hy hrs hrb
  obtain ⟨B, hB⟩ : ∃ B, B = w.heap.size := ⟨_, rfl⟩
  have hBw : w.heap.size ≤ B := Nat.le_of_eq hB.symm
  rw [← hB] at hx0 hx1
  have hBl : B < W.heap.size := (Array.getElem?_eq_some_iff.1 hx0).1
  have hw00 := H.below.size
  go_enter Tryd.func62, Tryd.ntmps62
  go_upto_region 1 with fail
  rw [← hW]
  simp only [← hB]
  clear hW
  replace hB := Lib.hid hB
  have HX0 := Lib.hid hx0
  have HX1 := Lib.hid hx1
  have HSS := Lib.hid HS
  have HW := Lib.hid hbW
  obtain ⟨x0, x1, x2, x3, x4, xf, xl⟩ := cells5 hx0
  obtain ⟨r0, r1, rf, rl⟩ := cells2 hx1
  have hcl := Lib.hid (begin_any2 HS f hf16 ⟨false, 0, 0⟩)
  clear hx0 hx1 HS hbW H
  go_upto_region 10 with (go_at_call 43; refine hcl.out.mono ?_; rintro e W1 ⟨rfl, hT1, hK1⟩; have HT1 := Lib.hid hT1; have HK1 := Lib.hid hK1; clear hT1 hK1)
  have hX0 := HT1.out.local HSS.out (t := 84) (by unfold Loc; decide) HX0.out
  have hX1 := HT1.out.local HSS.out (t := 41) (by unfold Loc; decide) HX1.out
  have hrun1 := (HK1.out b hbsk cl).trans HRUN.out
  have hT1 := HT1.out
  obtain ⟨L1, e1, e2, e3, e4, H1, o1, k1⟩ := hT1
  obtain ⟨nb, nbs, hrb1⟩ := H1.rb_cons (r := ⟨funOf c.p f, 0, ⟨false, 0, 0⟩, z3 :: List.replicate 15 z3⟩) (rs := s.rs) rfl
  obtain ⟨fv1, hrn, -, hrnl⟩ := H1.run rfl hrb1
  clear z0 z1 z2 z3' zf zl x0 x1 x2 x3 x4 xf xl r0 r1 rf rl cl
  obtain ⟨z0, z1, z2, z3', zf, zl⟩ := H1.ses4 hrb1
  rw [e2] at z0 z1 z2 z3' zl
  simp only [e2] at zf
  obtain ⟨c0, c1, c2, cf, cl⟩ := reg_cells hrun1 HRL.out i hi16
  rw [HY.out] at c0 c1 c2
  obtain ⟨d0, d1, d2, df, dl⟩ := reg_cells hrn hrnl 0 (by decide)
  obtain ⟨x0, x1, x2, x3, x4, xf, xl⟩ := cells5 hX0
  have hne : B + 1 ≠ nb := fun e => H1.not_own (t := 41) (by unfold Loc; decide) (e ▸ hX1) (.inr (.inr (.inr (.inr (.inr (by rw [hrb1]; simp))))))
  have hTP : Turns w0 W (put3 W1 nb 0 y).drew L c s (s.begin c.p f z3 y) := by
    have := Turns.drew (Turns.after e1 e2 e3 e4 o1 k1 (Turns.regput H1 rfl hrb1 0 (by decide) y))
    rw [← begin_put c s f y]
    exact this
  have hTP2 := Lib.hid (Turns.under HW.out hTP)
  have hrr := Lib.hid ((put3_other (y := y) (i := 0) hne).trans hX1)
  clear H1 hrun1 hrn hrnl hrb1 hX0 hX1 hne hTP e1 e2 e3 e4 o1 k1
  go_region
  have hTW := hTP2.out
  have hr2 := hrr.out
  rw [show put3 W1 nb 0 y = ((W1.setCell ⟨nb, 6, none⟩ (.bool y.p)).setCell ⟨nb, 7, none⟩ (.int .i64 y.a)).setCell ⟨nb, 8, none⟩ (.int .i64 y.n) from rfl] at hTW hr2
  clear hTP2 hrr z0 z1 z2 z3' zf zl c0 c1 c2 cf cl d0 d1 d2 df dl x0 x1 x2 x3 x4 xf xl
  replace hr2 : (((W1.setCell ⟨nb, 6, none⟩ (.bool y.p)).setCell ⟨nb, 7, none⟩ (.int .i64 y.a)).setCell ⟨nb, 8, none⟩ (.int .i64 y.n)).drew.heap[B + 1]? = some (.cells #[.int .i64 0, .int .i64 0] 41) := hr2
  generalize (((W1.setCell ⟨nb, 6, none⟩ (.bool y.p)).setCell ⟨nb, 7, none⟩ (.int .i64 y.a)).setCell ⟨nb, 8, none⟩ (.int .i64 y.n)).drew = WW at hTW hr2 ⊢
  obtain ⟨hfz, hfin⟩ := Turns.out hTW hw00 (by omega) hr2 (.int .i64 (-1)) (.int .i64 0)
  replace hfz := Lib.hid hfz
  replace hfin := Lib.hid hfin
  obtain ⟨r0, r1, rf, rl⟩ := cells2 hr2
  clear hTW hr2
  go_wp2
  have hf := hfz.out
  clear hfz
  generalize (World.setCell (World.setCell WW _ _) _ _) = WF at hf hfin ⊢
  obtain ⟨q0, q1, qf, ql⟩ := cells2 hf
  exact bodyPost_ret (v := outV on) (by simp [results, Tryd.results62, go_sem, q0, q1, outV, on]) rfl ⟨by rw [hs.out], by rw [hs.out]; exact hfin.out⟩
end Go.Proofs.YtgpkhdccchpljaaDoor

namespace Go.Proofs.YtgpkhdccchpljaaDoor
open Go.RowKit
open M (Wd MS RepAt Owned Kept Turned)
open C (In)

def tellR (c : Cx) (s : Se) (r : Ru) (rs : List Ru) (x : In) : Out × Se :=
  if numE (r.get x.a) ≠ 0 then (stopO (numE (r.get x.a)), s)
  else if x.op = 20 then (⟨0, (r.get x.a).n⟩, { s with rs := rs })
  else if x.op = 19 then (on, s.note ⟨3, c.task, x.b, (r.get x.a).n⟩)
  else (on, s.note ⟨2, c.task, 0, (r.get x.a).n⟩)

set_option maxRecDepth 100000 in
set_option maxHeartbeats 4000000 in
theorem tell_any {w0 w : World} {L : Ly} {c : Cx} {s : Se} {r : Ru} {rs : List Ru} (H : SesAt w0 w L c s) (hrs : s.rs = r :: rs) (hlen : s.told.length < 100000000) (x : In) (lv : Value) (hlv : C.IntsV w0 lv x.l) (hA : 0 ≤ x.a ∧ x.a < 16) (hop : x.op = 18 ∨ x.op = 19 ∨ x.op = 20) :
    Calls Tryd.prog 60 #[.pointer (some ⟨L.sk, 0, none⟩), .agg #[.int .i64 x.op, .int .i64 x.a, .int .i64 x.b, .int .i64 x.c, lv]] w fun e w' => e = .returned (outV (tellR c s r rs x).1) ∧ Turns w0 w w' L c s (tellR c s r rs x).2 := by
  obtain ⟨oal, capl, bl, ol, rfl, -, -, -, -⟩ := hlv
  obtain ⟨i, hi⟩ : ∃ i : Nat, x.a = i := ⟨x.a.toNat, by omega⟩
  have hi16 : i < 16 := by omega
  have hi17 : (i : Int) < 16 := by omega
  have HI := Lib.hid hi
  obtain ⟨xop, xb, xc, nl, hxx⟩ : ∃ xop xb xc nl, x.op = xop ∧ x.b = xb ∧ x.c = xc ∧ x.l.length = nl := ⟨_, _, _, _, rfl, rfl, rfl, rfl⟩
  obtain ⟨hxop, hxb, hxc, hxl⟩ := hxx
  obtain ⟨b, bs, hrb⟩ := H.rb_cons hrs
  obtain ⟨y, hy⟩ : ∃ y, r.get i = y := ⟨_, rfl⟩
  have hR : ∀ (hE : numE y ≠ 0), tellR c s r rs x = (stopO (numE y), s) := fun hE => by rw [tellR, hi, hy, if_pos hE]
  have hR20 : numE y = 0 → xop = 20 → tellR c s r rs x = (⟨0, y.n⟩, { s with rs := rs }) := fun hE h => by rw [tellR, hi, hy, if_neg (by simp [hE]), if_pos (hxop.trans h)]
  have hR19 : numE y = 0 → xop = 19 → tellR c s r rs x = (on, s.note ⟨3, c.task, xb, y.n⟩) := fun hE h => by rw [tellR, hi, hy, if_neg (by simp [hE]), hxop, if_neg (by omega), if_pos h, hxb]
  have hR18 : numE y = 0 → xop = 18 → tellR c s r rs x = (on, s.note ⟨2, c.task, 0, y.n⟩) := fun hE h => by rw [tellR, hi, hy, if_neg (by simp [hE]), hxop, if_neg (by omega), if_neg (by omega)]
  have hlv' : s.leave = { s with rs := rs } := by rw [Se.leave, hrs]; rfl
  rw [hxop] at hop
  rw [hi, hxop, hxb, hxc, hxl]
  clear hxop hxb hxc hxl hi hA
  generalize hres : tellR c s r rs x = res at hR hR20 hR19 hR18 ⊢
  clear hres
  have HR := Lib.hid (And.intro hR (And.intro hR20 (And.intro hR19 hR18)))
  have HLV := Lib.hid hlv'
  clear hR hR20 hR19 hR18 hlv'
  obtain ⟨W, hW⟩ : ∃ W, W = (w.alloc (.cells #[.int .i64 xop, .int .i64 i, .int .i64 xb, .int .i64 xc, .slice oal nl capl] 84)).alloc (.cells #[.int .i64 0, .int .i64 0] 41) := ⟨_, rfl⟩
  obtain ⟨hbW, hx0, hx1⟩ := al2 w (.cells #[.int .i64 xop, .int .i64 i, .int .i64 xb, .int .i64 xc, .slice oal nl capl] 84) (.cells #[.int .i64 0, .int .i64 0] 41)
  rw [← hW] at hbW hx0 hx1
  have HS := H.under hbW
  obtain ⟨fv, hrun, -, hrl⟩ := HS.run hrs hrb
  obtain ⟨z0, z1, z2, z3, zf, zl⟩ := HS.ses4 hrb
  obtain ⟨c0, c1, c2, cf, cl⟩ := reg_cells hrun hrl i hi16
  rw [hy] at c0 c1 c2
  have HRB := Lib.hid hrb
  clear hrun hrl hy hrs hrb
  obtain ⟨B, hB⟩ : ∃ B, B = w.heap.size := ⟨_, rfl⟩
  have hBw : w.heap.size ≤ B := Nat.le_of_eq hB.symm
  rw [← hB] at hx0 hx1
  have hBl : B < W.heap.size := (Array.getElem?_eq_some_iff.1 hx0).1
  have hw00 := H.below.size
  go_enter Tryd.func60, Tryd.ntmps60
  go_upto_region 1 with fail
  rw [← hW]
  simp only [← hB]
  clear hW
  replace hB := Lib.hid hB
  have HW := Lib.hid hbW
  have HX0 := Lib.hid hx0
  have HX1 := Lib.hid hx1
  have HH := Lib.hid H
  obtain ⟨x0, x1, x2, x3, x4, xf, xl⟩ := cells5 hx0
  clear hx0 hx1 HS hbW H
  go_region
  have hb5 : Below W.heap.size W (W.alloc (.cells #[.bool y.p, .int .i64 y.a, .int .i64 y.n] 38)).drew := (C.alloc_below W _).drew
  have HX05 := Lib.hid (keepB7 HX0.out hb5)
  have HX15 := Lib.hid (keepB7 HX1.out hb5)
  have hy5 : (W.alloc (.cells #[.bool y.p, .int .i64 y.a, .int .i64 y.n] 38)).drew.heap[W.heap.size]? = some (.cells #[.bool y.p, .int .i64 y.a, .int .i64 y.n] 38) := heap_alloc_new W _
  have HBW5 := Lib.hid (HW.out.trans (hb5.mono HW.out.size))
  clear x0 x1 x2 x3 x4 xf xl c0 c1 c2 cf cl hb5 z0 z1 z2 z3 zf zl
  generalize (W.alloc (.cells #[.bool y.p, .int .i64 y.a, .int .i64 y.n] 38)).drew = W5 at HX05 HX15 hy5 HBW5 ⊢
  generalize W.heap.size = b5 at hy5 ⊢
  have HY5 := Lib.hid hy5
  obtain ⟨y0, y1, y2, yf, yl⟩ := cells3 hy5
  have hnum := Lib.hid (numbers_any (W5.alloc (.cells #[.bool y.p, .int .i64 y.a, .int .i64 y.n] 38)) W5.heap.size [y] (by simp) (ws_one W5 y _ rfl) (by simp))
  clear hy5
  go_upto_region 3 with (go_at_call 46; refine hnum.out.mono ?_; rintro e w6 ⟨rfl, hb6⟩; have HB6 := Lib.hid (show Below W5.heap.size W5 w6 from C.box_below hb6); clear hb6)
  rw [numL_one]
  have HX06 := Lib.hid (keepB7 HX05.out HB6.out)
  have HX16 := Lib.hid (keepB7 HX15.out HB6.out)
  have HY6 := Lib.hid (keepB7 HY5.out HB6.out)
  have HBW6 := Lib.hid (HBW5.out.trans (HB6.out.mono HBW5.out.size))
  clear y0 y1 y2 yf yl
  obtain ⟨x0, x1, x2, x3, x4, xf, xl⟩ := cells5 HX06.out
  obtain ⟨y0, y1, y2, yf, yl⟩ := cells3 HY6.out
  obtain ⟨r0, r1, rf, rl⟩ := cells2 HX16.out
  have H6 := Lib.hid (HH.out.under HBW6.out)
  cases hp : y.p with
  | true =>
    have hnE : numE y = 11 := by rw [numE, hp]; rfl
    have hs : Hid (res = (⟨6, 11⟩, s)) := Lib.hid (by rw [HR.out.1 (by rw [hnE]; decide), hnE]; rfl)
    rw [hnE]
    rw [hp] at y0
    clear hp hnE hop
    have hst := Lib.hid (stop_any 11 w6)
    rw [show stopO 11 = ⟨6, 11⟩ from rfl] at hst
    have HT6 := Lib.hid (Turns.same HH.out HBW6.out)
    go_wp2_with (go_at_call 23; refine hst.out.mono ?_; rintro e WW ⟨rfl, hb7⟩; have hTW := Turns.below HT6.out hb7; have hrr := keepB7 HX16.out hb7; obtain ⟨hfz', hfin'⟩ := Turns.out hTW hw00 (by omega) hrr (.int .i64 6) (.int .i64 11); have hfz := Lib.hid hfz'; have hfin := Lib.hid hfin'; obtain ⟨r0, r1, rf, rl⟩ := cells2 hrr; clear hfz' hfin' hrr hTW hb7)
    have hf := hfz.out
    clear hfz
    generalize (World.setCell (World.setCell WW _ _) _ _) = WF at hf hfin ⊢
    obtain ⟨q0, q1, qf, ql⟩ := cells2 hf
    exact bodyPost_ret (v := outV ⟨6, 11⟩) (by simp [results, Tryd.results60, go_sem, q0, q1, outV]) rfl ⟨by rw [hs.out], by rw [hs.out]; exact hfin.out⟩
  | false =>
    have hnE : numE y = 0 := by rw [numE, hp]; rfl
    rw [hnE]
    rw [hp] at y0
    rcases hop with h | h | h
    · have hs : Hid (res = (on, s.note ⟨2, c.task, 0, y.n⟩)) := Lib.hid (HR.out.2.2.2 hnE h)
      rw [h] at x0
      clear hp hnE h
      have hnt := Lib.hid (note_any H6.out hlen 2 0 0 y.n)
      go_upto_region 11 with (go_at_call 81; refine hnt.out.mono ?_; rintro e W1 ⟨rfl, hT1'⟩; have HT1 := Lib.hid hT1'; clear hT1')
      have hTW := Turns.under HBW6.out HT1.out
      have hrr := HT1.out.local H6.out (t := 41) (by unfold Loc; decide) HX16.out
      clear r0 r1 rf rl x0 x1 x2 x3 x4 xf xl y0 y1 y2 yf yl
      obtain ⟨hfz, hfin⟩ := Turns.out hTW hw00 (by omega) hrr (.int .i64 (-1)) (.int .i64 0)
      replace hfz := Lib.hid hfz
      replace hfin := Lib.hid hfin
      obtain ⟨r0, r1, rf, rl⟩ := cells2 hrr
      clear hTW hrr
      go_wp2
      have hf := hfz.out
      clear hfz
      generalize (World.setCell (World.setCell W1 _ _) _ _) = WF at hf hfin ⊢
      obtain ⟨q0, q1, qf, ql⟩ := cells2 hf
      exact bodyPost_ret (v := outV on) (by simp [results, Tryd.results60, go_sem, q0, q1, outV, on]) rfl ⟨by rw [hs.out], by rw [hs.out]; exact hfin.out⟩
    · have hs : Hid (res = (on, s.note ⟨3, c.task, xb, y.n⟩)) := Lib.hid (HR.out.2.2.1 hnE h)
      rw [h] at x0
      clear hp hnE h
      have hnt := Lib.hid (note_any H6.out hlen 3 0 xb y.n)
      go_upto_region 11 with (go_at_call 81; refine hnt.out.mono ?_; rintro e W1 ⟨rfl, hT1'⟩; have HT1 := Lib.hid hT1'; clear hT1')
      have hTW := Turns.under HBW6.out HT1.out
      have hrr := HT1.out.local H6.out (t := 41) (by unfold Loc; decide) HX16.out
      clear r0 r1 rf rl x0 x1 x2 x3 x4 xf xl y0 y1 y2 yf yl
      obtain ⟨hfz, hfin⟩ := Turns.out hTW hw00 (by omega) hrr (.int .i64 (-1)) (.int .i64 0)
      replace hfz := Lib.hid hfz
      replace hfin := Lib.hid hfin
      obtain ⟨r0, r1, rf, rl⟩ := cells2 hrr
      clear hTW hrr
      go_wp2
      have hf := hfz.out
      clear hfz
      generalize (World.setCell (World.setCell W1 _ _) _ _) = WF at hf hfin ⊢
      obtain ⟨q0, q1, qf, ql⟩ := cells2 hf
      exact bodyPost_ret (v := outV on) (by simp [results, Tryd.results60, go_sem, q0, q1, outV, on]) rfl ⟨by rw [hs.out], by rw [hs.out]; exact hfin.out⟩
    · have hs : Hid (res = (⟨0, y.n⟩, { s with rs := rs })) := Lib.hid (HR.out.2.1 hnE h)
      rw [h] at x0
      clear hp hnE h
      have hlf := Lib.hid (leave_any H6.out HRB.out ⟨0, y.n⟩)
      rw [HLV.out, show outV ⟨0, y.n⟩ = .agg #[.int .i64 0, .int .i64 y.n] from rfl] at hlf
      go_wp2_with (go_at_call 65; refine hlf.out.mono ?_; rintro e WW ⟨rfl, hT7⟩; have hTW := Turns.under HBW6.out hT7; have hrr := hT7.local H6.out (t := 41) (by unfold Loc; decide) HX16.out; obtain ⟨hfz', hfin'⟩ := Turns.out hTW hw00 (by omega) hrr (.int .i64 0) (.int .i64 y.n); have hfz := Lib.hid hfz'; have hfin := Lib.hid hfin'; obtain ⟨r0, r1, rf, rl⟩ := cells2 hrr; clear hfz' hfin' hrr hTW hT7)
      have hf := hfz.out
      clear hfz
      generalize (World.setCell (World.setCell WW _ _) _ _) = WF at hf hfin ⊢
      obtain ⟨q0, q1, qf, ql⟩ := cells2 hf
      exact bodyPost_ret (v := outV ⟨0, y.n⟩) (by simp [results, Tryd.results60, go_sem, q0, q1, outV]) rfl ⟨by rw [hs.out], by rw [hs.out]; exact hfin.out⟩
end Go.Proofs.YtgpkhdccchpljaaDoor

namespace Go.Proofs.YtgpkhdccchpljaaDoor
open Go.RowKit
open M (Wd MS RepAt Owned Kept Turned)
open C (In)

theorem intElem_inv {v : Value} {n : Int} {ps : List MemPlace} (h : intElem v = some (.lit (.int .i64 n), ps)) : v = .int .i64 n := by
  unfold intElem at h
  split at h
  · simp at h; rw [h.1]
  · cases h
theorem ev_lookup {w : World} {em : Option Nat} {evs : List (Int × Int)} (h : EvAt w em evs) (e : Int) (he : (Lit.int .i64 e).wf = true) :
    ∃ v ok, (∀ w' : World, (∀ b, em = some b → w'.heap[b]? = w.heap[b]?) → (Instr.lookup 60 (.map em) (.int .i64 e) true).run Tryd.prog w' = .ok (.tuple #[.int .i64 v, .bool ok]) w') ∧ brought evs e = if ok then some v else none := by
  have hz : ∀ w : World, (zeroValue 3).run Tryd.prog w = .ok (.int .i64 0) w := fun w => by kernel_rfl
  have hkey := Maps.keyOf_int_mk Tryd.underlying3 he
  cases em with
  | none =>
    refine ⟨0, false, fun w' _ => ?_, by rw [h.1 rfl]; rfl⟩
    have := Maps.look_nil true M.keyLaw Tryd.underlying60 (hz w') hkey
    simpa using this
  | some b =>
    obtain ⟨D, ⟨es, clock, hb, hr⟩, hD⟩ := h.2 b rfl
    have hDe := hD e
    cases hbr : brought evs e with
    | some n =>
      rw [hbr] at hDe
      refine ⟨n, true, fun w' hw' => ?_, rfl⟩
      have ho : w'.ownsMap Tryd.prog 3 intElem b evs.length D := ⟨es, clock, (hw' b rfl).trans hb, hr⟩
      obtain ⟨v, ps, hrun, hv⟩ := ho.look_ok M.keyLaw Tryd.underlying60 (hz w') (zd := .lit (.int .i64 0)) (zp := []) rfl hkey
      rw [hDe.1] at hrun
      rw [hDe.2] at hv
      rw [intElem_inv hv] at hrun
      exact hrun
    | none =>
      rw [hbr] at hDe
      refine ⟨0, false, fun w' hw' => ?_, rfl⟩
      have ho : w'.ownsMap Tryd.prog 3 intElem b evs.length D := ⟨es, clock, (hw' b rfl).trans hb, hr⟩
      obtain ⟨v, ps, hrun, hv⟩ := ho.look_ok M.keyLaw Tryd.underlying60 (hz w') (zd := .lit (.int .i64 0)) (zp := []) rfl hkey
      have hd : Maps.has D (.int .i64 e) = false := hDe
      rw [hd] at hrun
      rw [Maps.atKey_of_not_has hd] at hv
      rw [intElem_inv hv] at hrun
      exact hrun

def waitR (c : Cx) (s : Se) (r : Ru) (rs : List Ru) (x : In) : Out × Se :=
  if numE (r.get x.b) ≠ 0 then (stopO (numE (r.get x.b)), s)
  else match brought c.evs (r.get x.b).n with
    | none => (⟨1, (r.get x.b).n⟩, { s with rs := rs })
    | some n => (on, { s with rs := r.put x.a (nm n) :: rs })

set_option maxRecDepth 100000 in
set_option maxHeartbeats 4000000 in
theorem wait_any {w0 w : World} {L : Ly} {c : Cx} {s : Se} {r : Ru} {rs : List Ru} (H : SesAt w0 w L c s) (hrs : s.rs = r :: rs) (x : In) (lv : Value) (hlv : C.IntsV w0 lv x.l) (hA : 0 ≤ x.a ∧ x.a < 16) (hB : 0 ≤ x.b ∧ x.b < 16) (hn : (Lit.int .i64 (r.get x.b).n).wf = true) :
    Calls Tryd.prog 61 #[.pointer (some ⟨L.sk, 0, none⟩), .agg #[.int .i64 x.op, .int .i64 x.a, .int .i64 x.b, .int .i64 x.c, lv]] w fun e w' => e = .returned (outV (waitR c s r rs x).1) ∧ Turns w0 w w' L c s (waitR c s r rs x).2 := by
  obtain ⟨oal, capl, bl, ol, rfl, -, -, -, -⟩ := hlv
  obtain ⟨i, hi⟩ : ∃ i : Nat, x.a = i := ⟨x.a.toNat, by omega⟩
  have hi16 : i < 16 := by omega
  have hi17 : (i : Int) < 16 := by omega
  have HI := Lib.hid hi
  obtain ⟨xop, xb, xc, nl, hxx⟩ : ∃ xop xb xc nl, x.op = xop ∧ x.b = xb ∧ x.c = xc ∧ x.l.length = nl := ⟨_, _, _, _, rfl, rfl, rfl, rfl⟩
  obtain ⟨hxop, hxb, hxc, hxl⟩ := hxx
  obtain ⟨ib, hib⟩ : ∃ ib : Nat, x.b = ib := ⟨x.b.toNat, by omega⟩
  have hj16 : ib < 16 := by omega
  have hj17 : (ib : Int) < 16 := by omega
  obtain ⟨b, bs, hrb⟩ := H.rb_cons hrs
  obtain ⟨y, hy⟩ : ∃ y, r.get ib = y := ⟨_, rfl⟩
  have hR : ∀ (hE : numE y ≠ 0), waitR c s r rs x = (stopO (numE y), s) := fun hE => by rw [waitR, hib, hy, if_pos hE]
  have hRn : numE y = 0 → brought c.evs y.n = none → waitR c s r rs x = (⟨1, y.n⟩, { s with rs := rs }) := fun hE h => by rw [waitR, hib, hy, if_neg (by simp [hE]), h]
  have hRs : ∀ n, numE y = 0 → brought c.evs y.n = some n → waitR c s r rs x = (on, { s with rs := r.put i (nm n) :: rs }) := fun n hE h => by rw [waitR, hib, hy, if_neg (by simp [hE]), h, hi]
  have hlv' : s.leave = { s with rs := rs } := by rw [Se.leave, hrs]; rfl
  rw [hib, hy] at hn
  rw [hi, hxop, hib, hxc, hxl]
  clear hxop hxb hxc hxl hi hA hib hB
  generalize hres : waitR c s r rs x = res at hR hRn hRs ⊢
  clear hres
  have HR := Lib.hid (And.intro hR (And.intro hRn hRs))
  have HLV := Lib.hid hlv'
  have HN := Lib.hid hn
  clear hR hRn hRs hlv' hn
  obtain ⟨W, hW⟩ : ∃ W, W = (w.alloc (.cells #[.int .i64 xop, .int .i64 i, .int .i64 ib, .int .i64 xc, .slice oal nl capl] 84)).alloc (.cells #[.int .i64 0, .int .i64 0] 41) := ⟨_, rfl⟩
  obtain ⟨hbW, hx0, hx1⟩ := al2 w (.cells #[.int .i64 xop, .int .i64 i, .int .i64 ib, .int .i64 xc, .slice oal nl capl] 84) (.cells #[.int .i64 0, .int .i64 0] 41)
  rw [← hW] at hbW hx0 hx1
  have HS := H.under hbW
  obtain ⟨fv, hrun, -, hrl⟩ := HS.run hrs hrb
  obtain ⟨z0, z1, z2, z3, zf, zl⟩ := HS.ses4 hrb
  obtain ⟨c0, c1, c2, cf, cl⟩ := reg_cells hrun hrl ib hj16
  rw [hy] at c0 c1 c2
  have HRB := Lib.hid hrb
  have HRS := Lib.hid hrs
  clear hrun hrl hy hrs hrb
  obtain ⟨B, hB⟩ : ∃ B, B = w.heap.size := ⟨_, rfl⟩
  have hBw : w.heap.size ≤ B := Nat.le_of_eq hB.symm
  rw [← hB] at hx0 hx1
  have hBl : B < W.heap.size := (Array.getElem?_eq_some_iff.1 hx0).1
  have hw00 := H.below.size
  go_enter Tryd.func61, Tryd.ntmps61
  go_upto_region 1 with fail
  rw [← hW]
  simp only [← hB]
  clear hW
  replace hB := Lib.hid hB
  have HW := Lib.hid hbW
  have HX0 := Lib.hid hx0
  have HX1 := Lib.hid hx1
  have HH := Lib.hid H
  obtain ⟨x0, x1, x2, x3, x4, xf, xl⟩ := cells5 hx0
  clear hx0 hx1 HS hbW H
  go_region
  have hb5 : Below W.heap.size W (W.alloc (.cells #[.bool y.p, .int .i64 y.a, .int .i64 y.n] 38)).drew := (C.alloc_below W _).drew
  have HX05 := Lib.hid (keepB7 HX0.out hb5)
  have HX15 := Lib.hid (keepB7 HX1.out hb5)
  have hy5 : (W.alloc (.cells #[.bool y.p, .int .i64 y.a, .int .i64 y.n] 38)).drew.heap[W.heap.size]? = some (.cells #[.bool y.p, .int .i64 y.a, .int .i64 y.n] 38) := heap_alloc_new W _
  have HBW5 := Lib.hid (HW.out.trans (hb5.mono HW.out.size))
  clear x0 x1 x2 x3 x4 xf xl c0 c1 c2 cf cl hb5 z0 z1 z2 z3 zf zl
  generalize (W.alloc (.cells #[.bool y.p, .int .i64 y.a, .int .i64 y.n] 38)).drew = W5 at HX05 HX15 hy5 HBW5 ⊢
  generalize W.heap.size = b5 at hy5 ⊢
  have HY5 := Lib.hid hy5
  obtain ⟨y0, y1, y2, yf, yl⟩ := cells3 hy5
  have hnum := Lib.hid (numbers_any (W5.alloc (.cells #[.bool y.p, .int .i64 y.a, .int .i64 y.n] 38)) W5.heap.size [y] (by simp) (ws_one W5 y _ rfl) (by simp))
  clear hy5
  go_upto_region 3 with (go_at_call 46; refine hnum.out.mono ?_; rintro e w6 ⟨rfl, hb6⟩; have HB6 := Lib.hid (show Below W5.heap.size W5 w6 from C.box_below hb6); clear hb6)
  rw [numL_one]
  have HX06 := Lib.hid (keepB7 HX05.out HB6.out)
  have HX16 := Lib.hid (keepB7 HX15.out HB6.out)
  have HY6 := Lib.hid (keepB7 HY5.out HB6.out)
  have HBW6 := Lib.hid (HBW5.out.trans (HB6.out.mono HBW5.out.size))
  clear y0 y1 y2 yf yl
  obtain ⟨x0, x1, x2, x3, x4, xf, xl⟩ := cells5 HX06.out
  obtain ⟨y0, y1, y2, yf, yl⟩ := cells3 HY6.out
  obtain ⟨r0, r1, rf, rl⟩ := cells2 HX16.out
  have H6 := Lib.hid (HH.out.under HBW6.out)
  cases hp : y.p with
  | true =>
    have hnE : numE y = 11 := by rw [numE, hp]; rfl
    have hs : Hid (res = (⟨6, 11⟩, s)) := Lib.hid (by rw [HR.out.1 (by rw [hnE]; decide), hnE]; rfl)
    rw [hnE]
    rw [hp] at y0
    clear hp hnE
    have hst := Lib.hid (stop_any 11 w6)
    rw [show stopO 11 = ⟨6, 11⟩ from rfl] at hst
    have HT6 := Lib.hid (Turns.same HH.out HBW6.out)
    go_wp2_with (go_at_call 23; refine hst.out.mono ?_; rintro e WW ⟨rfl, hb7⟩; have hTW := Turns.below HT6.out hb7; have hrr := keepB7 HX16.out hb7; obtain ⟨hfz', hfin'⟩ := Turns.out hTW hw00 (by omega) hrr (.int .i64 6) (.int .i64 11); have hfz := Lib.hid hfz'; have hfin := Lib.hid hfin'; obtain ⟨r0, r1, rf, rl⟩ := cells2 hrr; clear hfz' hfin' hrr hTW hb7)
    have hf := hfz.out
    clear hfz
    generalize (World.setCell (World.setCell WW _ _) _ _) = WF at hf hfin ⊢
    obtain ⟨q0, q1, qf, ql⟩ := cells2 hf
    exact bodyPost_ret (v := outV ⟨6, 11⟩) (by simp [results, Tryd.results61, go_sem, q0, q1, outV]) rfl ⟨by rw [hs.out], by rw [hs.out]; exact hfin.out⟩
  | false =>
    have hnE : numE y = 0 := by rw [numE, hp]; rfl
    have HNE := Lib.hid hnE
    rw [hnE]
    rw [hp] at y0
    obtain ⟨v, ok, hlk, hbr⟩ := ev_lookup H6.out.evs y.n HN.out
    have hl6 := hlk w6.drew (fun _ _ => rfl)
    have HBR := Lib.hid hbr
    have hm6 := H6.out.mach
    obtain ⟨fm, cm, hm, -⟩ := hm6
    obtain ⟨m0, m1, m2, m3, m4, mf, ml⟩ := cells5 hm
    obtain ⟨s0, s1, s2, s3, sf, sl⟩ := H6.out.ses4 HRB.out
    have hbw : Below w6.heap.size w6 w6.drew := (Below.refl _ _).drew
    have HX07 := Lib.hid (keepB7 HX06.out hbw)
    have HX17 := Lib.hid (keepB7 HX16.out hbw)
    have HY7 := Lib.hid (keepB7 HY6.out hbw)
    have HBW7 := Lib.hid (HBW6.out.trans (hbw.mono HBW6.out.size))
    have H7 := Lib.hid (HH.out.under HBW7.out)
    clear hp hnE hlk hbr hm hbw
    cases ok with
    | true =>
      go_upto_region 5 with fail
      go_region
      clear x0 x1 x2 x3 x4 xf xl y0 y1 y2 yf yl r0 r1 rf rl m0 m1 m2 m3 m4 mf ml s0 s1 s2 s3 sf sl hl6
      generalize w6.drew = w7 at HX07 HX17 HY7 HBW7 H7 ⊢
      have hs : Hid (res = (on, { s with rs := r.put i (nm v) :: rs })) := Lib.hid (HR.out.2.2 v HNE.out HBR.out)
      obtain ⟨x0, x1, x2, x3, x4, xf, xl⟩ := cells5 HX07.out
      obtain ⟨z0, z1, z2, z3, zf, zl⟩ := H7.out.ses4 HRB.out
      obtain ⟨fv7, hrun, -, hrl⟩ := H7.out.run HRS.out HRB.out
      obtain ⟨c0, c1, c2, cf, cl⟩ := reg_cells hrun hrl i hi16
      have hne : B + 1 ≠ b := fun e => H7.out.not_own (t := 41) (by unfold Loc; decide) (e ▸ HX17.out) (.inr (.inr (.inr (.inr (.inr (by rw [HRB.out]; simp))))))
      have hTP := Lib.hid (Turns.drew (Turns.under HBW7.out (Turns.regput H7.out HRS.out HRB.out i hi16 (nm v))))
      have hrr := Lib.hid ((put3_other (y := nm v) (i := i) hne).trans HX17.out)
      clear hrun hrl hne
      go_upto_region 8 with fail
      go_region
      have hTW := hTP.out
      have hr2 := hrr.out
      rw [show put3 w7 b i (nm v) = ((w7.setCell ⟨b, 6 + i * 3, none⟩ (.bool false)).setCell ⟨b, 6 + i * 3 + 1, none⟩ (.int .i64 0)).setCell ⟨b, 6 + i * 3 + 2, none⟩ (.int .i64 v) from rfl] at hTW hr2
      clear hTP hrr z0 z1 z2 z3 zf zl c0 c1 c2 cf cl x0 x1 x2 x3 x4 xf xl
      replace hr2 : (((w7.setCell ⟨b, 6 + i * 3, none⟩ (.bool false)).setCell ⟨b, 6 + i * 3 + 1, none⟩ (.int .i64 0)).setCell ⟨b, 6 + i * 3 + 2, none⟩ (.int .i64 v)).drew.heap[B + 1]? = some (.cells #[.int .i64 0, .int .i64 0] 41) := hr2
      generalize (((w7.setCell ⟨b, 6 + i * 3, none⟩ (.bool false)).setCell ⟨b, 6 + i * 3 + 1, none⟩ (.int .i64 0)).setCell ⟨b, 6 + i * 3 + 2, none⟩ (.int .i64 v)).drew = WW at hTW hr2 ⊢
      obtain ⟨hfz, hfin⟩ := Turns.out hTW hw00 (by omega) hr2 (.int .i64 (-1)) (.int .i64 0)
      replace hfz := Lib.hid hfz
      replace hfin := Lib.hid hfin
      obtain ⟨r0, r1, rf, rl⟩ := cells2 hr2
      clear hTW hr2
      go_wp2
      have hf := hfz.out
      clear hfz
      generalize (World.setCell (World.setCell WW _ _) _ _) = WF at hf hfin ⊢
      obtain ⟨q0, q1, qf, ql⟩ := cells2 hf
      exact bodyPost_ret (v := outV on) (by simp [results, Tryd.results61, go_sem, q0, q1, outV, on]) rfl ⟨by rw [hs.out], by rw [hs.out]; exact hfin.out⟩
    | false =>
      go_upto_region 5 with fail
      go_region
      clear x0 x1 x2 x3 x4 xf xl y0 y1 y2 yf yl r0 r1 rf rl m0 m1 m2 m3 m4 mf ml s0 s1 s2 s3 sf sl hl6
      generalize w6.drew = w7 at HX07 HX17 HY7 HBW7 H7 ⊢
      have hs : Hid (res = (⟨1, y.n⟩, { s with rs := rs })) := Lib.hid (HR.out.2.1 HNE.out HBR.out)
      obtain ⟨y0, y1, y2, yf, yl⟩ := cells3 HY7.out
      have hlf := Lib.hid (leave_any H7.out HRB.out ⟨1, y.n⟩)
      rw [HLV.out, show outV ⟨1, y.n⟩ = .agg #[.int .i64 1, .int .i64 y.n] from rfl] at hlf
      go_wp2_with (go_at_call 65; refine hlf.out.mono ?_; rintro e WW ⟨rfl, hT7⟩; have hTW := Turns.under HBW7.out hT7; have hrr := hT7.local H7.out (t := 41) (by unfold Loc; decide) HX17.out; obtain ⟨hfz', hfin'⟩ := Turns.out hTW hw00 (by omega) hrr (.int .i64 1) (.int .i64 y.n); have hfz := Lib.hid hfz'; have hfin := Lib.hid hfin'; obtain ⟨r0, r1, rf, rl⟩ := cells2 hrr; clear hfz' hfin' hrr hTW hT7)
      have hf := hfz.out
      clear hfz
      generalize (World.setCell (World.setCell WW _ _) _ _) = WF at hf hfin ⊢
      obtain ⟨q0, q1, qf, ql⟩ := cells2 hf
      exact bodyPost_ret (v := outV ⟨1, y.n⟩) (by simp [results, Tryd.results61, go_sem, q0, q1, outV]) rfl ⟨by rw [hs.out], by rw [hs.out]; exact hfin.out⟩
end Go.Proofs.YtgpkhdccchpljaaDoor
