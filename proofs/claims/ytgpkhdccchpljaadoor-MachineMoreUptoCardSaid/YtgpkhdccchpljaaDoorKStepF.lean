/-
  step of package machine. Conditions: the session lies in the heap; the instruction is one that may be run.
-/
import Derived.Test.YtgpkhdccchpljaaDoorKStepA
namespace Go.Proofs.YtgpkhdccchpljaaDoor
open Go.RowKit
open M (Wd MS RepAt Owned Kept Turned loadR storeR copyR clearR freeR allocR)
open C (In)

set_option maxRecDepth 100000 in
set_option maxHeartbeats 8000000 in
theorem step_end {w0 w : World} {L : Ly} {c : Cx} {s : Se} {r : Ru} {rs : List Ru} (H : SesAt w0 w L c s) (hrs : s.rs = r :: rs) (hf0 : 0 < s.fuel) (hf1 : s.fuel ≤ 1000000) (hkl : r.fn.length ≤ 65536) (x : In) (hx : r.fn[r.nx]? = some x) (hop : x.op = 27 ∨ x.op = 28 ∨ x.op = 29) (o : Out) (s2 : Se)
    (hcl : ∀ (w' : World) (L' : Ly) (lv : Value), SesAt w0 w' L' c (afterFetch s r rs) → C.IntsV w0 lv x.l → Calls Tryd.prog 63 #[.pointer (some ⟨L'.sk, 0, none⟩), .agg #[.int .i64 x.op, .int .i64 x.a, .int .i64 x.b, .int .i64 x.c, lv]] w' fun e w'' => e = .returned (outV o) ∧ Turns w0 w' w'' L' c (afterFetch s r rs) s2) :
    Calls Tryd.prog 40 #[.pointer (some ⟨L.sk, 0, none⟩)] w fun e w' => e = .returned (outV o) ∧ Turns w0 w w' L c s s2 := by
  obtain ⟨k, hk⟩ : ∃ k, r.nx = k := ⟨_, rfl⟩
  rw [hk] at hx
  have hlt : k < r.fn.length := (List.getElem?_eq_some_iff.1 hx).1
  obtain ⟨b, bs, hrb⟩ := H.rb_cons hrs
  obtain ⟨W, hW⟩ : ∃ W, W = w.alloc (.cells #[.int .i64 0, .int .i64 0] 41) := ⟨_, rfl⟩
  have hbW : Below w.heap.size w W := by rw [hW]; exact C.alloc_below _ _
  have hx0 : W.heap[w.heap.size]? = some (.cells #[.int .i64 0, .int .i64 0] 41) := by rw [hW, heap_alloc_new]
  have HS := H.under hbW
  obtain ⟨fv, hrun, hfun, hrl⟩ := HS.run hrs hrb
  obtain ⟨z0, z1, z2, z3, zf, zl⟩ := HS.ses4 hrb
  obtain ⟨fu, hfu⟩ : ∃ fu, s.fuel = fu := ⟨_, rfl⟩
  rw [hfu] at z2 hf0 hf1
  have hwf : wrap64 (fu - 1) = fu - 1 := by unfold wrap64; omega
  have hd0 : decide (fu ≤ 0) = false := by simp; omega
  obtain ⟨H2, hT2⟩ := Turns.fuelput HS (fu - 1)
  have hT2' := Lib.hid (Turns.under hbW hT2)
  have HRB := Lib.hid hrb
  have HRS := Lib.hid hrs
  have HFU := Lib.hid hfu
  have HK := Lib.hid hk
  have HX := Lib.hid hx
  have HX1 : Hid ((W.setCell ⟨L.sk, 2, none⟩ (.int .i64 (fu - 1))).heap[w.heap.size]? = some (.cells #[.int .i64 0, .int .i64 0] 41)) := Lib.hid ((Below.heap_setCell _ _ _ _ (show w.heap.size ≠ L.sk from Nat.ne_of_gt (H.lt _ (.inr (.inl rfl))))).trans hx0)
  have H2' := Lib.hid H2
  obtain ⟨B, hB⟩ : ∃ B, B = w.heap.size := ⟨_, rfl⟩
  have hBw : w.heap.size ≤ B := Nat.le_of_eq hB.symm
  rw [← hB] at hx0 HX1
  have hBl : B < W.heap.size := (Array.getElem?_eq_some_iff.1 hx0).1
  have hw00 := H.below.size
  go_enter Tryd.func40, Tryd.ntmps40
  go_upto_region 1 with fail
  rw [← hW]
  try simp only [← hB]
  clear hW
  replace hB := Lib.hid hB
  clear hx0 HS hbW H hT2 H2 hrb hrs hfu hk hx hrun hfun hrl
  go_upto_region 4 with fail
  clear z0 z1 z2 z3 zf zl
  generalize W.setCell ⟨L.sk, 2, none⟩ (.int .i64 (fu - 1)) = W2 at hT2' HX1 H2' ⊢
  have hBl2 : B < W2.heap.size := (Array.getElem?_eq_some_iff.1 HX1.out).1
  obtain ⟨fv, hrun, hfun, hrl⟩ := H2'.out.run (show ({ s with fuel := fu - 1 } : Se).rs = r :: rs from HRS.out) HRB.out
  obtain ⟨z0, z1, z2, z3, zf, zl⟩ := H2'.out.ses4 HRB.out
  have hfun2 := funV_under H2'.out.below hfun
  have HFUN := Lib.hid hfun
  obtain ⟨oaf, capf, bf, off, rfl, -, -, hf3, hf4⟩ := hfun2
  obtain ⟨rfl, hfl⟩ := hf3 (by omega)
  obtain ⟨lv, k0, k1, k2, k3, k4, klv⟩ := hf4 k x HX.out
  have HLV := Lib.hid (show C.IntsV w0 lv x.l by
    obtain ⟨_, _, bf0, off0, e0, -, -, g3, g4⟩ := HFUN.out
    obtain ⟨e1, hbf0⟩ := g3 (by omega)
    rw [e1] at e0
    cases e0
    obtain ⟨lv0, _, _, _, _, q4, q5⟩ := g4 k x HX.out
    have q6 := H2'.out.below.cell' _ _ q4
    rw [k4] at q6
    cases q6
    exact q5)
  obtain ⟨oal, capl, bl, ol, rfl, -, -, -, -⟩ := klv
  have c0 : W2.cell? ⟨b, 1, none⟩ = some (.slice (some ⟨bf, off, none⟩) r.fn.length capf) := run_cell hrun rfl
  have c1 : W2.cell? ⟨b, 2, none⟩ = some (.int .i64 (k : Int)) := by have := nx_cell hrun; rw [HK.out] at this; exact this
  have cl := (Array.getElem?_eq_some_iff.1 hrun).1
  have hki : (k : Int) < r.fn.length := by omega
  obtain ⟨fl, hfl'⟩ : ∃ fl, fl = r.fn.length := ⟨_, rfl⟩
  rw [← hfl'] at c0 hki
  have hkn : k < fl := by omega
  have hk16 : k < 65536 := by omega
  obtain ⟨hw1, hw2, hw3⟩ := wrapk k hk16
  obtain ⟨xop, hxop⟩ : ∃ xop, x.op = xop := ⟨_, rfl⟩
  obtain ⟨xl, hxl⟩ : ∃ xl, x.l.length = xl := ⟨_, rfl⟩
  rw [hxop] at k0 hop
  have HOP := Lib.hid hop
  clear hop
  rw [hxl] at k4
  have hcl2 := fun w' L' BS => hcl w' L' BS
  clear hrun hrl hfun hf3 hf4  hlt hfl' hkl hcl2
  have HA1 := Lib.hid (And.intro (C.alloc_below W2 (.cells #[.int .i64 xop, .int .i64 x.a, .int .i64 x.b, .int .i64 x.c, .slice oal xl capl] 84)).drew (heap_alloc_new W2 (.cells #[.int .i64 xop, .int .i64 x.a, .int .i64 x.b, .int .i64 x.c, .slice oal xl capl] 84)))
  have HA2 := Lib.hid (And.intro (set5_below (u0 := .int .i64 xop) (u1 := .int .i64 x.a) (u2 := .int .i64 x.b) (u3 := .int .i64 x.c) (u4 := .slice oal xl capl) (k := W2.heap.size) (C.alloc_below W2 (.cells #[.int .i64 0, .int .i64 0, .int .i64 0, .int .i64 0, .slice none 0 0] 84)).drew (Nat.le_refl _)) (set5 (u0 := .int .i64 xop) (u1 := .int .i64 x.a) (u2 := .int .i64 x.b) (u3 := .int .i64 x.c) (u4 := .slice oal xl capl) (show (W2.alloc (.cells #[.int .i64 0, .int .i64 0, .int .i64 0, .int .i64 0, .slice none 0 0] 84)).drew.heap[W2.heap.size]? = _ from heap_alloc_new W2 _)))
  go_cut [3] (fun s3 wc => ∃ b3, s3 = .pointer (some ⟨b3, 0, none⟩) ∧ wc.heap[b3]? = some (.cells #[.int .i64 xop, .int .i64 x.a, .int .i64 x.b, .int .i64 x.c, .slice oal xl capl] 84) ∧ Below W2.heap.size W2 wc)
  case first =>
    have n1 : L.sk ≠ W2.heap.size := Nat.ne_of_lt zl
    have n2 : b ≠ W2.heap.size := Nat.ne_of_lt cl
    have n3 : bf ≠ W2.heap.size := Nat.ne_of_lt (Nat.lt_of_lt_of_le hfl (Nat.le_refl _))
    go_region
    all_goals (go_wp2_with fail; go_meet)
    all_goals first
      | exact ⟨_, rfl, HA1.out.2, HA1.out.1⟩
      | exact ⟨_, rfl, HA2.out.2, HA2.out.1⟩
  case rest =>
  obtain ⟨b3, rfl, hy3, hb3⟩ := hcut
  have HX13 := Lib.hid (keepB7 HX1.out hb3)
  have H3 := Lib.hid (H2'.out.under hb3)
  have HT3 := Lib.hid (Turns.below hT2'.out hb3)
  clear z0 z1 z2 z3 zf zl c0 c1 cl k0 k1 k2 k3 k4 hb3 hki hkn hfl HA1 HA2
  generalize wc = W3 at hy3 HX13 H3 HT3 ⊢
  obtain ⟨fv3, hrun, -, -⟩ := H3.out.run (show ({ s with fuel := fu - 1 } : Se).rs = r :: rs from HRS.out) HRB.out
  obtain ⟨z0, z1, z2, z3, zf, zl⟩ := H3.out.ses4 HRB.out
  have c1 : W3.cell? ⟨b, 2, none⟩ = some (.int .i64 (k : Int)) := by have := nx_cell hrun; rw [HK.out] at this; exact this
  have cf : ∀ q, W3.frozen? ⟨b, q, none⟩ = false := fun q => by simp [World.frozen?, hrun]
  have cl := (Array.getElem?_eq_some_iff.1 hrun).1
  have hne3 : b3 ≠ b := fun e => H3.out.not_own (t := 84) (by unfold Loc; decide) (e ▸ hy3) (.inr (.inr (.inr (.inr (.inr (by rw [HRB.out]; simp))))))
  have hneB : B ≠ b := fun e => H3.out.not_own (t := 41) (by unfold Loc; decide) (e ▸ HX13.out) (.inr (.inr (.inr (.inr (.inr (by rw [HRB.out]; simp))))))
  have HY4 : Hid ((W3.setCell ⟨b, 2, none⟩ (.int .i64 ((k : Int) + 1))).heap[b3]? = some (.cells #[.int .i64 xop, .int .i64 x.a, .int .i64 x.b, .int .i64 x.c, .slice oal xl capl] 84)) := Lib.hid ((Below.heap_setCell _ _ _ _ hne3).trans hy3)
  have HX4 : Hid ((W3.setCell ⟨b, 2, none⟩ (.int .i64 ((k : Int) + 1))).heap[B]? = some (.cells #[.int .i64 0, .int .i64 0] 41)) := Lib.hid ((Below.heap_setCell _ _ _ _ hneB).trans HX13.out)
  have HN : Hid (Turns w0 W3 (W3.setCell ⟨b, 2, none⟩ (.int .i64 ((k : Int) + 1))) L c { s with fuel := fu - 1 } (afterFetch s r rs)) := Lib.hid (by
    have := Turns.nxput H3.out (show ({ s with fuel := fu - 1 } : Se).rs = r :: rs from HRS.out) HRB.out (k + 1)
    rw [show (((k + 1 : Nat)) : Int) = (k : Int) + 1 from rfl] at this
    rw [afterFetch, HFU.out, HK.out]
    exact this)
  have HT4 : Hid (Turns w0 w (W3.setCell ⟨b, 2, none⟩ (.int .i64 ((k : Int) + 1))) L c s (afterFetch s r rs)) := Lib.hid (by
    refine Turns.after rfl rfl rfl rfl (fun b hb => .inl hb) ?_ HN.out
    obtain ⟨_, _, _, _, _, _, _, k1⟩ := HT3.out
    exact k1)
  clear hrun hne3 hneB hy3
  go_upto_region 6 with fail
  clear z0 z1 z2 z3 zf zl c1 cf cl
  generalize W3.setCell ⟨b, 2, none⟩ (.int .i64 ((k : Int) + 1)) = W4 at HY4 HX4 HN HT4 ⊢
  have hT4 := HT4.out
  obtain ⟨L1, f1, f2, f3, f4, H1, o1, k1'⟩ := hT4
  obtain ⟨b1, bs1, hrb1⟩ := H1.rb_cons (show (afterFetch s r rs).rs = { r with nx := r.nx + 1 } :: rs from rfl)
  obtain ⟨y0, y1, y2, y3, y4, yf, yl⟩ := cells5 HY4.out
  obtain ⟨r0, r1, rf, rl⟩ := cells2 HX4.out
  have HAF := Lib.hid (And.intro f1 (And.intro f2 (And.intro f3 (And.intro f4 (And.intro o1 k1')))))
  have H7 := Lib.hid H1
  have HX7 := HX4
  have hst := Lib.hid (hcl W4 L1 _ H1 HLV.out)
  rw [hxop, hxl, f2] at hst
  rw [show outV o = .agg #[.int .i64 o.k, .int .i64 o.n] from rfl] at hst
  clear H1 hrb1 f1 f2 f3 f4 o1 k1' hxop hxl hcl hf0 hf1 hwf hd0 hw1 hw2 hw3
  have hop := HOP.out
  rcases hop with rfl | rfl | rfl
  all_goals
    go_wp2_with (go_at_call 63; refine hst.out.mono ?_; rintro e WW ⟨rfl, hT7⟩; have hTW := (Turns.after HAF.out.1 HAF.out.2.1 HAF.out.2.2.1 HAF.out.2.2.2.1 HAF.out.2.2.2.2.1 HAF.out.2.2.2.2.2 hT7); have hrr := hT7.local H7.out (t := 41) (by unfold Loc; decide) HX7.out; obtain ⟨hfz', hfin'⟩ := Turns.out hTW hw00 (by omega) hrr (.int .i64 o.k) (.int .i64 o.n); have hfz := Lib.hid hfz'; have hfin := Lib.hid hfin'; obtain ⟨r0, r1, rf, rl⟩ := cells2 hrr; clear hfz' hfin' hrr hTW hT7)
    have hf := hfz.out
    clear hfz
    generalize (World.setCell (World.setCell WW _ _) _ _) = WF at hf hfin ⊢
    obtain ⟨q0, q1, qf, ql⟩ := cells2 hf
    exact bodyPost_ret (v := outV o) (by simp [results, Tryd.results40, go_sem, q0, q1, outV]) rfl ⟨rfl, hfin.out⟩

end Go.Proofs.YtgpkhdccchpljaaDoor
