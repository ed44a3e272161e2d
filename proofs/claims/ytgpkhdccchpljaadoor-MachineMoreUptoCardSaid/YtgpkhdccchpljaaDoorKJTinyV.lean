/-
  Several texts of the proof in one: KPoll, KCancel, KTinyV. No conditions of their own: each lemma states its own.
-/
import Derived.Test.YtgpkhdccchpljaaDoorKJUndo
import Derived.Test.YtgpkhdccchpljaaDoorKAll
import Derived.Test.YtgpkhdccchpljaaDoorKJNum
import Derived.StillTailTactics
import Derived.Test.YtgpkhdccchpljaaDoorKJTiny
namespace Go.Proofs.YtgpkhdccchpljaaDoor
open Go.RowKit
open M (Wd MS RepAt Owned Kept Turned loadR storeR copyR clearR freeR allocR)
open C (In)

/-- what Poll comes to -/
def PollPost (K : Nat) (w0 w : World) (L : Ly) (c : Cx) (S : MS) (told : List Ev) (x : Wd) (fuel : Int) (e : Ending) (w' : World) : Prop :=
  ∃ z, Thr c (goOnR c.p ⟨S, told, fuel, []⟩ x) z ∧ Inv c K z ∧ e = .returned (.tuple #[outV (pollO x z), .int .i64 z.2.fuel]) ∧ MTurns w0 w w' L c S c z.2.S z.2.told

set_option maxRecDepth 100000 in
set_option maxHeartbeats 8000000 in
theorem poll_any {w0 w : World} {L : Ly} {c : Cx} {S : MS} {told : List Ev} (hc : CxOk c) (H : MacAt w0 w L c S told) (hm : MemOk S) (ht : told.length ≤ 80000000) (fuel : Int) (hf : fuel ≤ 1000000) (hmade : S.blocks.length + fuel.toNat ≤ 800000) (x : Wd) (hx : inR x.n) :
    Calls Tryd.prog 9 #[.pointer (some ⟨L.mc, 0, none⟩), .agg #[.bool x.p, .int .i64 x.a, .int .i64 x.n], .int .i64 c.task, .int .i64 fuel] w (PollPost (S.blocks.length + 1 + fuel.toNat) w0 w L c S told x fuel) := by
  obtain ⟨gk, gn, sg, hg⟩ : ∃ gk gn sg, goOnR c.p ⟨S, told, fuel, []⟩ x = (⟨gk, gn⟩, sg) := ⟨_, _, _, rfl⟩
  have hI : Inv c (S.blocks.length + 1 + fuel.toNat) (⟨gk, gn⟩, sg) := by
    have := inv_fine (fine_goOn hc (s1 := ⟨S, told, fuel, []⟩) (rs := []) hx hm (Nat.zero_le _) (fun _ h => by cases h)) hf ht hmade
    rw [hg] at this
    exact this
  obtain ⟨K, hK⟩ : ∃ K, S.blocks.length + 1 + fuel.toNat = K := ⟨_, rfl⟩
  rw [hK] at hI ⊢
  have hrun : Hid (∀ (w' : World) (L' : Ly), SesAt w0 w' L' c sg → Calls Tryd.prog 25 #[.pointer (some ⟨L'.sk, 0, none⟩), .agg #[.int .i64 gk, .int .i64 gn]] w' fun e w'' => ∃ z : Out × Se, Thr c (⟨gk, gn⟩, sg) z ∧ Inv c K z ∧ e = .returned (.agg #[.int .i64 z.1.k, .int .i64 z.1.n]) ∧ Turns w0 w' w'' L' c sg z.2) := Lib.hid (fun w' L' h => run_any hc hI h)
  have hgo := Lib.hid (fun (w' : World) (L' : Ly) (h : SesAt w0 w' L' c ⟨S, told, fuel, []⟩) => goOn_any h (co_ok hc) x)
  have HG := Lib.hid hg
  clear hI hm ht hmade hf hK hx hg
  obtain ⟨W, hW⟩ : ∃ W, W = (w.alloc (.cells #[.bool x.p, .int .i64 x.a, .int .i64 x.n] 38)).alloc (.cells #[.int .i64 0, .int .i64 0] 41) := ⟨_, rfl⟩
  obtain ⟨hbW, hx0, hx1⟩ := al2 w (.cells #[.bool x.p, .int .i64 x.a, .int .i64 x.n] 38) (.cells #[.int .i64 0, .int .i64 0] 41)
  rw [← hW] at hbW hx0 hx1
  obtain ⟨B, hB⟩ : ∃ B, B = w.heap.size := ⟨_, rfl⟩
  have hBw : w.heap.size ≤ B := Nat.le_of_eq hB.symm
  rw [← hB] at hx0 hx1
  have hBl : B < W.heap.size := (Array.getElem?_eq_some_iff.1 hx0).1
  have hw00 := H.below.size
  go_enter Tryd.func9, Tryd.ntmps9
  go_upto_region 1 with fail
  rw [← hW]
  simp only [← hB]
  clear hW
  replace hB := Lib.hid hB
  have HH := Lib.hid H
  have HW := Lib.hid hbW
  obtain ⟨tk, htk⟩ : ∃ tk, c.task = tk := ⟨_, rfl⟩
  rw [htk]
  have hb2 : Below W.heap.size W (W.alloc (.cells #[.pointer (some ⟨L.mc, 0, none⟩), .int .i64 tk, .int .i64 fuel, .pointer none] 72)) := C.alloc_below _ _
  have hs2 : (W.alloc (.cells #[.pointer (some ⟨L.mc, 0, none⟩), .int .i64 tk, .int .i64 fuel, .pointer none] 72)).heap[W.heap.size]? = some (.cells #[.pointer (some ⟨L.mc, 0, none⟩), .int .i64 tk, .int .i64 fuel, .pointer none] 72) := heap_alloc_new _ _
  have HX02 := Lib.hid (keepB7 hx0 hb2)
  have HX12 := Lib.hid (keepB7 hx1 hb2)
  have HW2 := Lib.hid (hbW.trans (hb2.mono hbW.size))
  have hkw : w.heap.size ≤ W.heap.size := hbW.size
  obtain ⟨x0, x1, x2, xf, xl⟩ := cells3 hx0
  clear hb2 hx0 hx1 hbW H
  go_upto_region 2 with (go_at_call 21; refine (orEmpty_any L.mc _).mono ?_; rintro e W1 ⟨rfl, rfl⟩)
  clear x0 x1 x2 xf xl hBl
  generalize W1.alloc (.cells #[.pointer (some ⟨L.mc, 0, none⟩), .int .i64 tk, .int .i64 fuel, .pointer none] 72) = W2 at hs2 HX02 HX12 HW2 ⊢
  generalize W1.heap.size = k at hs2 hkw ⊢
  obtain ⟨x0, x1, x2, xf, xl⟩ := cells3 HX02.out
  have H2 := Lib.hid (HH.out.ses HW2.out k hkw fuel (by rw [htk]; exact hs2))
  have hgo2 := hgo.out W2 _ H2.out
  rw [HG.out, show outV (⟨gk, gn⟩ : Out) = .agg #[.int .i64 gk, .int .i64 gn] from rfl] at hgo2
  simp only at hgo2
  replace hgo2 := Lib.hid hgo2
  have hs2' := Lib.hid hs2
  clear hs2 hgo
  go_upto_region 3 with
    (first
      | (go_at_call 26; refine hgo2.out.mono ?_; rintro e W3 ⟨rfl, hT3⟩; have HT3 := Lib.hid hT3; obtain ⟨L3, f1, f2, f3, f4, H3, o3, k3⟩ := hT3; have HAF := Lib.hid (And.intro f1 (And.intro f2 (And.intro f3 (And.intro f4 (And.intro o3 k3))))); have hr3 := hrun.out W3 L3 H3; rw [f2] at hr3; simp only at hr3; have HR3 := Lib.hid hr3; have HH3 := Lib.hid H3; clear hr3 H3 f1 f2 f3 f4 o3 k3)
      | (go_at_call 25; refine HR3.out.mono ?_; rintro e W5 ⟨⟨⟨zk, zn⟩, sz⟩, hz, hIz, rfl, hT5⟩; have HZ := Lib.hid (And.intro hz hIz); have HT5 := Lib.hid hT5; clear hz hIz hT5))
  have hT5 : Turns w0 W2 W5 { L with sk := k, rb := [] } c ⟨S, told, fuel, []⟩ sz := Turns.after HAF.out.1 HAF.out.2.1 HAF.out.2.2.1 HAF.out.2.2.2.1 HAF.out.2.2.2.2.1 HAF.out.2.2.2.2.2 HT5.out
  have hX05 := HT5.out.local HH3.out (t := 38) (by unfold Loc; decide) (HT3.out.local H2.out (t := 38) (by unfold Loc; decide) HX02.out)
  have hX15 := HT5.out.local HH3.out (t := 41) (by unfold Loc; decide) (HT3.out.local H2.out (t := 41) (by unfold Loc; decide) HX12.out)
  have hb6 : Below W5.heap.size W5 (W5.alloc (.cells #[.int .i64 zk, .int .i64 zn] 41)) := C.alloc_below _ _
  have hy6 : (W5.alloc (.cells #[.int .i64 zk, .int .i64 zn] 41)).heap[W5.heap.size]? = some (.cells #[.int .i64 zk, .int .i64 zn] 41) := heap_alloc_new _ _
  have HX06 := Lib.hid (keepB7 hX05 hb6)
  have HX16 := Lib.hid (keepB7 hX15 hb6)
  have hT6 := hT5.below hb6
  have HM6 := Lib.hid (MTurns.ses HW2.out hkw hT6)
  obtain ⟨L6, f1, f2, f3, f4, H6, o6, k6⟩ := hT6
  clear x0 x1 x2 xf xl hb6 hX05 hX15 hT5 o6 k6 f4
  generalize W5.alloc (.cells #[.int .i64 zk, .int .i64 zn] 41) = W6 at hy6 HX06 HX16 HM6 H6 ⊢
  generalize W5.heap.size = b6 at hy6 ⊢
  have HH6 := Lib.hid H6
  have hses := H6.ses
  obtain ⟨up, hup⟩ : ∃ up, upV L6.rb = up := ⟨_, rfl⟩
  rw [sesC, hup, f1, f2] at hses
  simp only at hses f1 f2 f3
  obtain ⟨fu, hfu⟩ : ∃ fu, sz.fuel = fu := ⟨_, rfl⟩
  have HFU := Lib.hid hfu
  rw [hfu] at hses
  have HSES := Lib.hid hses
  obtain ⟨z0, z1, z2, z3, zf, zl⟩ := cells4m hses
  obtain ⟨y0, y1, yf, yl⟩ := cells2 hy6
  obtain ⟨x0, x1, x2, xf, xl⟩ := cells3 HX06.out
  obtain ⟨r0, r1, rf, rl⟩ := cells2 HX16.out
  obtain ⟨fv, cv, hmm, -⟩ := H6.mach
  obtain ⟨m0, m1, m2, m3, m4, mf, ml⟩ := cells5 hmm
  rw [f1] at m2
  clear H6 hses hfu hup htk hmm m0 m1 m3 m4 mf ml
  by_cases hk : zk = 2
  · have t0 : (zk != 2) = false := by simp [hk]
    obtain ⟨rn, er, hnr⟩ : ∃ rn er, numR sz.S x 1 = (rn, er) := ⟨_, _, rfl⟩
    have hnum := number_any HH6.out.mem (mk := L.mc) m2 x 1
    rw [hnr] at hnum
    replace hnum := Lib.hid hnum
    have hpo : Hid (pollO x (⟨zk, zn⟩, sz) = if er ≠ 0 then stopO er else ⟨2, rn⟩) := Lib.hid (by rw [pollO, if_neg (by simp [hk]), hnr])
    clear hk hnr m2
    go_upto_region 6 with (go_at_call 27; refine hnum.out.mono ?_; rintro e W7 ⟨rfl, hb7⟩; have HB7 := Lib.hid hb7; clear hb7)
    have HM7 := Lib.hid (HM6.out.below HB7.out)
    have HX17 := Lib.hid (keepB7 HX16.out HB7.out)
    have HS7 := Lib.hid (keepB7 HSES.out HB7.out)
    clear x0 x1 x2 xf xl r0 r1 rf rl z0 z1 z2 z3 zf zl y0 y1 yf yl
    obtain ⟨r0, r1, rf, rl⟩ := cells2 HX17.out
    obtain ⟨z0, z1, z2, z3, zf, zl⟩ := cells4m HS7.out
    by_cases he : er = 0
    · have t1 : (er != 0) = false := by simp [he]
      have hpo2 : Hid (pollO x (⟨zk, zn⟩, sz) = ⟨2, rn⟩) := Lib.hid (by rw [hpo.out, if_neg (by simp [he])])
      obtain ⟨hfz', hfin'⟩ := MTurns.out HM7.out.drew hw00 (show w.heap.size ≤ B + 1 by omega) (show W7.drew.heap[B + 1]? = _ from HX17.out) (.int .i64 2) (.int .i64 rn)
      have hfz := Lib.hid hfz'
      have hfin := Lib.hid hfin'
      clear he hfz' hfin'
      go_upto_region 8 with fail
      go_region
      all_goals
        go_wp2
        have hf := hfz.out
        clear hfz
        replace hf : ((W7.setCell ⟨B + 1, 0, none⟩ (.int .i64 2)).setCell ⟨B + 1, 1, none⟩ (.int .i64 rn)).drew.heap[B + 1]? = some (.cells #[.int .i64 2, .int .i64 rn] 41) := hf
        replace hfin : Hid (MTurns w0 w ((W7.setCell ⟨B + 1, 0, none⟩ (.int .i64 2)).setCell ⟨B + 1, 1, none⟩ (.int .i64 rn)).drew L c S c sz.S sz.told) := hfin
        generalize World.drew (World.setCell (World.setCell W7 _ _) _ _) = WF at hf hfin ⊢
        obtain ⟨q0, q1, qf, ql⟩ := cells2 hf
        exact bodyPost_ret (v := .tuple #[.agg #[.int .i64 2, .int .i64 rn], .int .i64 fu]) (by simp [results, Tryd.results9, go_sem, q0, q1]) rfl (Exists.intro ((⟨zk, zn⟩ : Out), sz) ⟨by rw [HG.out]; exact HZ.out.1, HZ.out.2, by rw [hpo2.out]; simp only; rw [HFU.out]; rfl, hfin.out⟩)
    · have t1 : (er != 0) = true := by simpa using he
      have hpo2 : Hid (pollO x (⟨zk, zn⟩, sz) = stopO er) := Lib.hid (by rw [hpo.out, if_pos he])
      obtain ⟨kk, hkk⟩ : ∃ kk, kk = (stopO er).k := ⟨_, rfl⟩
      obtain ⟨nn, hnn⟩ : ∃ nn, nn = (stopO er).n := ⟨_, rfl⟩
      have hst := Lib.hid (stop_any er W7.drew)
      rw [← hkk, ← hnn] at hst
      have HKN := Lib.hid (show outV (stopO er) = .agg #[.int .i64 kk, .int .i64 nn] by rw [outV, hkk, hnn])
      clear he hkk hnn
      go_upto_region 7 with fail
      go_region_with (go_at_call 23; refine hst.out.mono ?_; rintro e WW ⟨rfl, hb8⟩; have hTW := HM7.out.drew.below hb8; have hrr := keepB7 (show W7.drew.heap[B + 1]? = _ from HX17.out) hb8; have hss := keepB7 (show W7.drew.heap[k]? = _ from HS7.out) hb8; obtain ⟨hfz', hfin'⟩ := MTurns.out hTW hw00 (show w.heap.size ≤ B + 1 by omega) hrr (.int .i64 kk) (.int .i64 nn); have hfz := Lib.hid hfz'; have hfin := Lib.hid hfin'; clear r0 r1 rf rl; obtain ⟨r0, r1, rf, rl⟩ := cells2 hrr; obtain ⟨v0, v1, v2, v3, vf, vl⟩ := cells4m hss; clear hfz' hfin' hrr hss hTW hb8)
      all_goals
        go_wp2
        have hf := hfz.out
        clear hfz
        generalize (World.setCell (World.setCell WW _ _) _ _) = WF at hf hfin ⊢
        obtain ⟨q0, q1, qf, ql⟩ := cells2 hf
        exact bodyPost_ret (v := .tuple #[.agg #[.int .i64 kk, .int .i64 nn], .int .i64 fu]) (by simp [results, Tryd.results9, go_sem, q0, q1]) rfl (Exists.intro ((⟨zk, zn⟩ : Out), sz) ⟨by rw [HG.out]; exact HZ.out.1, HZ.out.2, by rw [hpo2.out, HKN.out]; simp only; rw [HFU.out], hfin.out⟩)
  · have t0 : (zk != 2) = true := by simpa using hk
    have hpo : Hid (pollO x (⟨zk, zn⟩, sz) = ⟨zk, zn⟩) := Lib.hid (by rw [pollO, if_pos hk])
    obtain ⟨hfz', hfin'⟩ := MTurns.out HM6.out.drew hw00 (show w.heap.size ≤ B + 1 by omega) (show W6.drew.heap[B + 1]? = _ from HX16.out) (.int .i64 zk) (.int .i64 zn)
    have hfz := Lib.hid hfz'
    have hfin := Lib.hid hfin'
    clear hk hfz' hfin' m2
    go_upto_region 4 with fail
    go_region
    all_goals
      go_wp2
      have hf := hfz.out
      clear hfz
      replace hf : ((W6.setCell ⟨B + 1, 0, none⟩ (.int .i64 zk)).setCell ⟨B + 1, 1, none⟩ (.int .i64 zn)).drew.heap[B + 1]? = some (.cells #[.int .i64 zk, .int .i64 zn] 41) := hf
      replace hfin : Hid (MTurns w0 w ((W6.setCell ⟨B + 1, 0, none⟩ (.int .i64 zk)).setCell ⟨B + 1, 1, none⟩ (.int .i64 zn)).drew L c S c sz.S sz.told) := hfin
      generalize World.drew (World.setCell (World.setCell W6 _ _) _ _) = WF at hf hfin ⊢
      obtain ⟨q0, q1, qf, ql⟩ := cells2 hf
      exact bodyPost_ret (v := .tuple #[.agg #[.int .i64 zk, .int .i64 zn], .int .i64 fu]) (by simp [results, Tryd.results9, go_sem, q0, q1]) rfl (Exists.intro ((⟨zk, zn⟩ : Out), sz) ⟨by rw [HG.out]; exact HZ.out.1, HZ.out.2, by rw [hpo.out]; simp only; rw [HFU.out]; rfl, hfin.out⟩)
end Go.Proofs.YtgpkhdccchpljaaDoor

namespace Go.Proofs.YtgpkhdccchpljaaDoor
open Go.RowKit
open M (Wd MS RepAt Owned Kept Turned loadR storeR copyR clearR freeR allocR)
open C (In)

/-- what Cancel makes of what a session came out with -/
def cancelO (x : Wd) (z : Out × Se) : Out × MS :=
  if z.1.k ≠ 2 then (z.1, z.2.S) else if (freeR z.2.S x.p x.a x.n).1 ≠ 0 then (stopO (freeR z.2.S x.p x.a x.n).1, (freeR z.2.S x.p x.a x.n).2) else (z.1, (freeR z.2.S x.p x.a x.n).2)
/-- what Cancel comes to -/
def CancelPost (K : Nat) (w0 w : World) (L : Ly) (c : Cx) (S : MS) (told : List Ev) (x : Wd) (fuel : Int) (e : Ending) (w' : World) : Prop :=
  ∃ z, Thr c (undoR c.p ⟨S, told, fuel, []⟩ x) z ∧ Inv c K z ∧ e = .returned (.tuple #[outV (cancelO x z).1, .int .i64 z.2.fuel]) ∧ MTurns w0 w w' L c S c (cancelO x z).2 z.2.told

set_option maxRecDepth 100000 in
set_option maxHeartbeats 8000000 in
theorem cancel_any {w0 w : World} {L : Ly} {c : Cx} {S : MS} {told : List Ev} (hc : CxOk c) (H : MacAt w0 w L c S told) (hm : MemOk S) (ht : told.length ≤ 80000000) (fuel : Int) (hf : fuel ≤ 1000000) (hmade : S.blocks.length + fuel.toNat ≤ 800000) (x : Wd) (hx : inR x.n) :
    Calls Tryd.prog 11 #[.pointer (some ⟨L.mc, 0, none⟩), .agg #[.bool x.p, .int .i64 x.a, .int .i64 x.n], .int .i64 c.task, .int .i64 fuel] w (CancelPost (S.blocks.length + 1 + fuel.toNat) w0 w L c S told x fuel) := by
  obtain ⟨gk, gn, sg, hg⟩ : ∃ gk gn sg, undoR c.p ⟨S, told, fuel, []⟩ x = (⟨gk, gn⟩, sg) := ⟨_, _, _, rfl⟩
  have hI : Inv c (S.blocks.length + 1 + fuel.toNat) (⟨gk, gn⟩, sg) := by
    have := inv_fine (fine_undo hc (s1 := ⟨S, told, fuel, []⟩) (rs := []) hx hm (Nat.zero_le _) (fun _ h => by cases h)) hf ht hmade
    rw [hg] at this
    exact this
  obtain ⟨K, hK⟩ : ∃ K, S.blocks.length + 1 + fuel.toNat = K := ⟨_, rfl⟩
  rw [hK] at hI ⊢
  have hrun : Hid (∀ (w' : World) (L' : Ly), SesAt w0 w' L' c sg → Calls Tryd.prog 25 #[.pointer (some ⟨L'.sk, 0, none⟩), .agg #[.int .i64 gk, .int .i64 gn]] w' fun e w'' => ∃ z : Out × Se, Thr c (⟨gk, gn⟩, sg) z ∧ Inv c K z ∧ e = .returned (.agg #[.int .i64 z.1.k, .int .i64 z.1.n]) ∧ Turns w0 w' w'' L' c sg z.2) := Lib.hid (fun w' L' h => run_any hc hI h)
  have hgo := Lib.hid (fun (w' : World) (L' : Ly) (h : SesAt w0 w' L' c ⟨S, told, fuel, []⟩) => undo_any h (co_ok hc) x)
  have HG := Lib.hid hg
  clear hI hm ht hmade hf hK hx hg
  obtain ⟨W, hW⟩ : ∃ W, W = (w.alloc (.cells #[.bool x.p, .int .i64 x.a, .int .i64 x.n] 38)).alloc (.cells #[.int .i64 0, .int .i64 0] 41) := ⟨_, rfl⟩
  obtain ⟨hbW, hx0, hx1⟩ := al2 w (.cells #[.bool x.p, .int .i64 x.a, .int .i64 x.n] 38) (.cells #[.int .i64 0, .int .i64 0] 41)
  rw [← hW] at hbW hx0 hx1
  obtain ⟨B, hB⟩ : ∃ B, B = w.heap.size := ⟨_, rfl⟩
  have hBw : w.heap.size ≤ B := Nat.le_of_eq hB.symm
  rw [← hB] at hx0 hx1
  have hBl : B < W.heap.size := (Array.getElem?_eq_some_iff.1 hx0).1
  have hw00 := H.below.size
  go_enter Tryd.func11, Tryd.ntmps11
  go_upto_region 1 with fail
  rw [← hW]
  simp only [← hB]
  clear hW
  replace hB := Lib.hid hB
  have HH := Lib.hid H
  have HW := Lib.hid hbW
  obtain ⟨tk, htk⟩ : ∃ tk, c.task = tk := ⟨_, rfl⟩
  rw [htk]
  have hb2 : Below W.heap.size W (W.alloc (.cells #[.pointer (some ⟨L.mc, 0, none⟩), .int .i64 tk, .int .i64 fuel, .pointer none] 72)) := C.alloc_below _ _
  have hs2 : (W.alloc (.cells #[.pointer (some ⟨L.mc, 0, none⟩), .int .i64 tk, .int .i64 fuel, .pointer none] 72)).heap[W.heap.size]? = some (.cells #[.pointer (some ⟨L.mc, 0, none⟩), .int .i64 tk, .int .i64 fuel, .pointer none] 72) := heap_alloc_new _ _
  have HX02 := Lib.hid (keepB7 hx0 hb2)
  have HX12 := Lib.hid (keepB7 hx1 hb2)
  have HW2 := Lib.hid (hbW.trans (hb2.mono hbW.size))
  have hkw : w.heap.size ≤ W.heap.size := hbW.size
  obtain ⟨x0, x1, x2, xf, xl⟩ := cells3 hx0
  clear hb2 hx0 hx1 hbW H
  go_upto_region 2 with (go_at_call 21; refine (orEmpty_any L.mc _).mono ?_; rintro e W1 ⟨rfl, rfl⟩)
  clear x0 x1 x2 xf xl hBl
  generalize W1.alloc (.cells #[.pointer (some ⟨L.mc, 0, none⟩), .int .i64 tk, .int .i64 fuel, .pointer none] 72) = W2 at hs2 HX02 HX12 HW2 ⊢
  generalize W1.heap.size = k at hs2 hkw ⊢
  obtain ⟨x0, x1, x2, xf, xl⟩ := cells3 HX02.out
  have H2 := Lib.hid (HH.out.ses HW2.out k hkw fuel (by rw [htk]; exact hs2))
  have hgo2 := hgo.out W2 _ H2.out
  rw [HG.out, show outV (⟨gk, gn⟩ : Out) = .agg #[.int .i64 gk, .int .i64 gn] from rfl] at hgo2
  simp only at hgo2
  replace hgo2 := Lib.hid hgo2
  have hs2' := Lib.hid hs2
  clear hs2 hgo
  go_upto_region 3 with
    (first
      | (go_at_call 28; refine hgo2.out.mono ?_; rintro e W3 ⟨rfl, hT3⟩; have HT3 := Lib.hid hT3; obtain ⟨L3, f1, f2, f3, f4, H3, o3, k3⟩ := hT3; have HAF := Lib.hid (And.intro f1 (And.intro f2 (And.intro f3 (And.intro f4 (And.intro o3 k3))))); have hr3 := hrun.out W3 L3 H3; rw [f2] at hr3; simp only at hr3; have HR3 := Lib.hid hr3; have HH3 := Lib.hid H3; clear hr3 H3 f1 f2 f3 f4 o3 k3)
      | (go_at_call 25; refine HR3.out.mono ?_; rintro e W5 ⟨⟨⟨zk, zn⟩, sz⟩, hz, hIz, rfl, hT5⟩; have HZ := Lib.hid (And.intro hz hIz); have HT5 := Lib.hid hT5; clear hz hIz hT5))
  have hT5 : Turns w0 W2 W5 { L with sk := k, rb := [] } c ⟨S, told, fuel, []⟩ sz := Turns.after HAF.out.1 HAF.out.2.1 HAF.out.2.2.1 HAF.out.2.2.2.1 HAF.out.2.2.2.2.1 HAF.out.2.2.2.2.2 HT5.out
  have hX05 := HT5.out.local HH3.out (t := 38) (by unfold Loc; decide) (HT3.out.local H2.out (t := 38) (by unfold Loc; decide) HX02.out)
  have hX15 := HT5.out.local HH3.out (t := 41) (by unfold Loc; decide) (HT3.out.local H2.out (t := 41) (by unfold Loc; decide) HX12.out)
  have hb6 : Below W5.heap.size W5 (W5.alloc (.cells #[.int .i64 zk, .int .i64 zn] 41)) := C.alloc_below _ _
  have hy6 : (W5.alloc (.cells #[.int .i64 zk, .int .i64 zn] 41)).heap[W5.heap.size]? = some (.cells #[.int .i64 zk, .int .i64 zn] 41) := heap_alloc_new _ _
  have HX06 := Lib.hid (keepB7 hX05 hb6)
  have HX16 := Lib.hid (keepB7 hX15 hb6)
  have hT6 := hT5.below hb6
  have HM6 := Lib.hid (MTurns.ses HW2.out hkw hT6)
  obtain ⟨L6, f1, f2, f3, f4, H6, o6, k6⟩ := hT6
  have HA6 := Lib.hid (And.intro f1 (And.intro f2 (And.intro f3 (And.intro f4 (And.intro o6 k6)))))
  clear x0 x1 x2 xf xl hb6 hX05 hX15 hT5 o6 k6 f4
  generalize W5.alloc (.cells #[.int .i64 zk, .int .i64 zn] 41) = W6 at hy6 HX06 HX16 HM6 H6 HA6 ⊢
  generalize W5.heap.size = b6 at hy6 ⊢
  have HH6 := Lib.hid H6
  have HY6 := Lib.hid hy6
  have hses := H6.ses
  obtain ⟨up, hup⟩ : ∃ up, upV L6.rb = up := ⟨_, rfl⟩
  rw [sesC, hup, f1, f2] at hses
  simp only at hses f1 f2 f3
  obtain ⟨fu, hfu⟩ : ∃ fu, sz.fuel = fu := ⟨_, rfl⟩
  have HFU := Lib.hid hfu
  rw [hfu] at hses
  have HSES := Lib.hid hses
  obtain ⟨z0, z1, z2, z3, zf, zl⟩ := cells4m hses
  obtain ⟨y0, y1, yf, yl⟩ := cells2 hy6
  obtain ⟨x0, x1, x2, xf, xl⟩ := cells3 HX06.out
  obtain ⟨r0, r1, rf, rl⟩ := cells2 HX16.out
  obtain ⟨fv, cv, hmm, -⟩ := H6.mach
  obtain ⟨m0, m1, m2, m3, m4, mf, ml⟩ := cells5 hmm
  rw [f1] at m2
  clear H6 hses hfu hup htk hmm m0 m1 m3 m4 mf ml
  by_cases hk : zk = 2
  · have t0 : (zk != 2) = false := by simp [hk]
    obtain ⟨er, S', hfr⟩ : ∃ er S', freeR sz.S x.p x.a x.n = (er, S') := ⟨_, _, rfl⟩
    have H6d := Lib.hid (HH6.out.under (Below.refl W6.heap.size W6).drew)
    have hcl := M.free_gen H6d.out.mem x.p x.a x.n er S' hfr
    replace hcl := Lib.hid hcl
    have hpo : Hid (cancelO x (⟨zk, zn⟩, sz) = if er ≠ 0 then (stopO er, S') else (⟨zk, zn⟩, S')) := Lib.hid (by rw [cancelO, if_neg (by simp [hk]), hfr])
    have HF := Lib.hid (And.intro f1 (And.intro f2 f3))
    clear hfr f1 f2 f3
    go_upto_region 5 with fail
    go_still_tail 6, (by kernel_rfl)
    change wpList _ _ _ _ _ W6.drew
    go_upto_region 6 with (go_at_call 29; refine hcl.out.mono ?_; rintro e W7 ⟨rfl, hT7⟩; have HT7 := Lib.hid hT7; clear hT7)
    have hT7 : Turns w0 W6.drew W7 L6 c sz { sz with S := S' } := Turns.mem H6d.out HT7.out
    have HX17 := Lib.hid (hT7.local H6d.out (t := 41) (by unfold Loc; decide) (show W6.drew.heap[B + 1]? = _ from HX16.out))
    have HY7 := Lib.hid (hT7.local H6d.out (t := 41) (by unfold Loc; decide) (show W6.drew.heap[b6]? = _ from HY6.out))
    have HM7 : Hid (MTurns w0 w W7 L c S c S' sz.told) := Lib.hid (MTurns.ses (told := told) (fuel := fuel) HW2.out hkw (Turns.after HA6.out.1 HA6.out.2.1 HA6.out.2.2.1 HA6.out.2.2.2.1 HA6.out.2.2.2.2.1 HA6.out.2.2.2.2.2 (Turns.under (Below.refl W6.heap.size W6).drew hT7)))
    obtain ⟨L7, g1, g2, g3, g4, H7, -, -⟩ := hT7
    have hses7 := H7.ses
    obtain ⟨up7, hup7⟩ : ∃ up7, upV L7.rb = up7 := ⟨_, rfl⟩
    rw [sesC, hup7, g1, g2, HF.out.1, HF.out.2.1, HFU.out] at hses7
    have HS7 := Lib.hid hses7
    clear x0 x1 x2 xf xl r0 r1 rf rl z0 z1 z2 z3 zf zl y0 y1 yf yl m2 g1 g2 g3 g4 H7 hses7 hup7
    obtain ⟨r0, r1, rf, rl⟩ := cells2 HX17.out
    obtain ⟨z0, z1, z2, z3, zf, zl⟩ := cells4m HS7.out
    obtain ⟨y0, y1, yf, yl⟩ := cells2 HY7.out
    by_cases he : er = 0
    · have t1 : (er != 0) = false := by simp [he]
      have hpo2 : Hid (cancelO x (⟨zk, zn⟩, sz) = (⟨zk, zn⟩, S')) := Lib.hid (by rw [hpo.out, if_neg (by simp [he])])
      obtain ⟨hfz', hfin'⟩ := MTurns.out HM7.out.drew hw00 (show w.heap.size ≤ B + 1 by omega) (show W7.drew.heap[B + 1]? = _ from HX17.out) (.int .i64 zk) (.int .i64 zn)
      have hfz := Lib.hid hfz'
      have hfin := Lib.hid hfin'
      clear he hfz' hfin' hk
      go_upto_region 8 with fail
      go_region
      all_goals
        go_wp2
        have hf := hfz.out
        clear hfz
        replace hf : ((W7.setCell ⟨B + 1, 0, none⟩ (.int .i64 zk)).setCell ⟨B + 1, 1, none⟩ (.int .i64 zn)).drew.heap[B + 1]? = some (.cells #[.int .i64 zk, .int .i64 zn] 41) := hf
        replace hfin : Hid (MTurns w0 w ((W7.setCell ⟨B + 1, 0, none⟩ (.int .i64 zk)).setCell ⟨B + 1, 1, none⟩ (.int .i64 zn)).drew L c S c S' sz.told) := hfin
        generalize World.drew (World.setCell (World.setCell W7 _ _) _ _) = WF at hf hfin ⊢
        obtain ⟨q0, q1, qf, ql⟩ := cells2 hf
        exact bodyPost_ret (v := .tuple #[.agg #[.int .i64 zk, .int .i64 zn], .int .i64 fu]) (by simp [results, Tryd.results11, go_sem, q0, q1]) rfl (Exists.intro ((⟨zk, zn⟩ : Out), sz) ⟨by rw [HG.out]; exact HZ.out.1, HZ.out.2, by rw [hpo2.out]; simp only; rw [HFU.out]; rfl, by rw [hpo2.out]; exact hfin.out⟩)
    · have t1 : (er != 0) = true := by simpa using he
      have hpo2 : Hid (cancelO x (⟨zk, zn⟩, sz) = (stopO er, S')) := Lib.hid (by rw [hpo.out, if_pos he])
      obtain ⟨kk, hkk⟩ : ∃ kk, kk = (stopO er).k := ⟨_, rfl⟩
      obtain ⟨nn, hnn⟩ : ∃ nn, nn = (stopO er).n := ⟨_, rfl⟩
      have hst := Lib.hid (stop_any er W7.drew)
      rw [← hkk, ← hnn] at hst
      have HKN := Lib.hid (show outV (stopO er) = .agg #[.int .i64 kk, .int .i64 nn] by rw [outV, hkk, hnn])
      clear he hkk hnn hk
      go_upto_region 7 with fail
      go_region_with (go_at_call 23; refine hst.out.mono ?_; rintro e WW ⟨rfl, hb8⟩; have hTW := HM7.out.drew.below hb8; have hrr := keepB7 (show W7.drew.heap[B + 1]? = _ from HX17.out) hb8; have hss := keepB7 (show W7.drew.heap[k]? = _ from HS7.out) hb8; obtain ⟨hfz', hfin'⟩ := MTurns.out hTW hw00 (show w.heap.size ≤ B + 1 by omega) hrr (.int .i64 kk) (.int .i64 nn); have hfz := Lib.hid hfz'; have hfin := Lib.hid hfin'; clear r0 r1 rf rl; obtain ⟨r0, r1, rf, rl⟩ := cells2 hrr; obtain ⟨v0, v1, v2, v3, vf, vl⟩ := cells4m hss; clear hfz' hfin' hrr hss hTW hb8)
      all_goals
        go_wp2
        have hf := hfz.out
        clear hfz
        generalize (World.setCell (World.setCell WW _ _) _ _) = WF at hf hfin ⊢
        obtain ⟨q0, q1, qf, ql⟩ := cells2 hf
        exact bodyPost_ret (v := .tuple #[.agg #[.int .i64 kk, .int .i64 nn], .int .i64 fu]) (by simp [results, Tryd.results11, go_sem, q0, q1]) rfl (Exists.intro ((⟨zk, zn⟩ : Out), sz) ⟨by rw [HG.out]; exact HZ.out.1, HZ.out.2, by rw [hpo2.out]; simp only; rw [HFU.out, HKN.out], by rw [hpo2.out]; exact hfin.out⟩)
  · have t0 : (zk != 2) = true := by simpa using hk
    have hpo : Hid (cancelO x (⟨zk, zn⟩, sz) = (⟨zk, zn⟩, sz.S)) := Lib.hid (by rw [cancelO, if_pos hk])
    obtain ⟨hfz', hfin'⟩ := MTurns.out HM6.out.drew hw00 (show w.heap.size ≤ B + 1 by omega) (show W6.drew.heap[B + 1]? = _ from HX16.out) (.int .i64 zk) (.int .i64 zn)
    have hfz := Lib.hid hfz'
    have hfin := Lib.hid hfin'
    clear hk hfz' hfin' m2
    go_upto_region 4 with fail
    go_region
    all_goals
      go_wp2
      have hf := hfz.out
      clear hfz
      replace hf : ((W6.setCell ⟨B + 1, 0, none⟩ (.int .i64 zk)).setCell ⟨B + 1, 1, none⟩ (.int .i64 zn)).drew.heap[B + 1]? = some (.cells #[.int .i64 zk, .int .i64 zn] 41) := hf
      replace hfin : Hid (MTurns w0 w ((W6.setCell ⟨B + 1, 0, none⟩ (.int .i64 zk)).setCell ⟨B + 1, 1, none⟩ (.int .i64 zn)).drew L c S c sz.S sz.told) := hfin
      generalize World.drew (World.setCell (World.setCell W6 _ _) _ _) = WF at hf hfin ⊢
      obtain ⟨q0, q1, qf, ql⟩ := cells2 hf
      exact bodyPost_ret (v := .tuple #[.agg #[.int .i64 zk, .int .i64 zn], .int .i64 fu]) (by simp [results, Tryd.results11, go_sem, q0, q1]) rfl (Exists.intro ((⟨zk, zn⟩ : Out), sz) ⟨by rw [HG.out]; exact HZ.out.1, HZ.out.2, by rw [hpo.out]; simp only; rw [HFU.out]; rfl, by rw [hpo.out]; exact hfin.out⟩)
end Go.Proofs.YtgpkhdccchpljaaDoor

namespace Go.Proofs.YtgpkhdccchpljaaDoor
open Go.RowKit
open M (Wd MS)
open C (In Cr Pg PgOk FnOk Un Ahead writesO readsL fallsB goes)

/-- places closed under going on where register r is not written -/
def cloB (f : List In) (r : Int) (S : List Nat) : Bool :=
  S.contains 0 && S.all fun i => match f[i]? with
    | none => true
    | some x => (writesO x == some r) || (x.l.all (fun l => decide (0 ≤ l) && S.contains l.toNat) && (!fallsB x.op || S.contains (i + 1)))
theorem un_clo {f : List In} {z : Nat → Bool} {r : Nat} {S : List Nat} (h : cloB f r S = true) {k : Nat} (hu : Un f z r k) : S.contains k = true := by
  simp only [cloB, Bool.and_eq_true, List.all_eq_true] at h
  induction hu with
  | start _ => exact h.1
  | step hu hx hw hg ih =>
    rename_i i j x
    have h1 := h.2 i (by simpa using ih)
    rw [hx] at h1
    simp only [Bool.or_eq_true, Bool.and_eq_true, List.all_eq_true, beq_iff_eq, Bool.not_eq_true', decide_eq_true_eq] at h1
    rcases h1 with h1 | ⟨h1, h2⟩
    · exact absurd h1 hw
    · rcases hg with hg | ⟨hg, rfl⟩
      · have := (h1 _ hg).2
        simpa using this
      · rcases h2 with h2 | h2
        · rw [hg] at h2; cases h2
        · exact h2
theorem ahead_of {f : List In} {z : Nat → Bool} (U : Int → List Nat) (h : ((List.range f.length).all fun i => match f[i]? with | none => true | some x => (readsL x).all fun r => cloB f r (U r) && !(U r).contains i) = true) : Ahead f z := by
  intro i x r hx hr hu
  have hi := (List.getElem?_eq_some_iff.1 hx).1
  have h1 := List.all_eq_true.1 h i (List.mem_range.2 hi)
  rw [hx] at h1
  have h2 := List.all_eq_true.1 h1 _ hr
  simp only [Bool.and_eq_true, Bool.not_eq_true'] at h2
  have h3 := un_clo h2.1 hu
  rw [h3] at h2
  cases h2.2

def tinyU (r : Int) : List Nat := if r = 1 then [0] else if r = 2 then [0, 1] else if r = 3 then [0, 1, 2, 3, 7, 8, 9, 10] else [0, 1, 2, 3, 4, 5, 7, 8]
theorem tiny_ok : PgOk tinyP := by
  refine ⟨by decide, by decide, fun c hc => ?_, fun i f hf => ?_⟩
  · simp [tinyP] at hc
    subst hc
    decide
  · match i, hf with
    | 0, hf =>
      cases hf
      refine ⟨by decide, by decide, fun x hx => ?_, fun x hx => ?_, ahead_of tinyU (by decide)⟩
      · cases hx; decide
      · have : (tinyR.all fun x => C.instrB tinyP.cs.length (C.kindsL tinyP) ((C.kindsL tinyP).getD 0 0) tinyR.length x) = true := by decide
        exact List.all_eq_true.1 this x hx
    | 1, hf =>
      cases hf
      refine ⟨by decide, by decide, fun x hx => ?_, fun x hx => ?_, ahead_of tinyU (by decide)⟩
      · cases hx; decide
      · have : (tinyC.all fun x => C.instrB tinyP.cs.length (C.kindsL tinyP) ((C.kindsL tinyP).getD 1 0) tinyC.length x) = true := by decide
        exact List.all_eq_true.1 this x hx
    | n + 2, hf => cases hf
theorem tiny_lab : C.LabOk tinyP ∧ (∀ f ∈ tinyP.fs, ∀ x ∈ f, x.l.length * 8 ≤ 140737488355328) ∧ ∀ f ∈ tinyP.fs, ∀ x ∈ f, inR x.b := by
  have h : (tinyP.fs.all fun f => f.all fun x => decide (x.l.length ≤ 1) && (decide (0 ≤ x.b) && decide (x.b ≤ 100))) = true := by decide
  have h' : ∀ f ∈ tinyP.fs, ∀ x ∈ f, x.l.length ≤ 1 ∧ 0 ≤ x.b ∧ x.b ≤ 100 := fun f hf x hx => by
    have := List.all_eq_true.1 (List.all_eq_true.1 h f hf) x hx
    simpa using this
  exact ⟨fun f hf x hx => by have := (h' f hf x hx).1; omega, fun f hf x hx => by have := (h' f hf x hx).1; omega, fun f hf x hx => by have := (h' f hf x hx).2; unfold inR; omega⟩
theorem tiny_cx (task : Int) : CxOk ⟨tinyP, [], task⟩ := ⟨tiny_ok, tiny_lab.2.2, fun e n h => by cases h⟩

/-- so many rounds of a run -/
def thrN (c : Cx) : Nat → Out × Se → Out × Se
  | 0, q => q
  | k + 1, q => match thr1 c q with
    | none => q
    | some q' => thrN c k q'
theorem thr_thrN (c : Cx) : ∀ (k : Nat) (q : Out × Se), thr1 c (thrN c k q) = none → Thr c q (thrN c k q)
  | 0, q, h => .done h
  | k + 1, q, h => by
    unfold thrN at h ⊢
    cases hq : thr1 c q with
    | none => simp only; exact .done hq
    | some q' =>
      rw [hq] at h
      exact .next hq (thr_thrN c k q' h)
end Go.Proofs.YtgpkhdccchpljaaDoor
