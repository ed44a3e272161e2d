/-
  Several texts of the proof in one: QInner, PGlA, QClone, QCopied, QChain. No conditions of their own: each lemma states its own.
-/
import Derived.Test.YtghkbihgdabamaaGreatDoorKQMeant
import Derived.Test.YtghkbihgdabamaaGreatDoorKLScan
import Derived.Deep.AppendLies
import Derived.Laws.OwnMore
import Derived.Test.YtghkbihgdabamaaGreatDoorKPRes
import Derived.Lib.SliceRun
namespace Go.Proofs.YtghkbihgdabamaaGreatDoor
open Go.RowKit

/-- its kind, and what is wrong with it -/
def innerO (s : So5) (x : Ty5) : Int × Int := match x with
  | .mk k _ _ _ => if k = 1 then (1, 0) else if k = 2 ∨ k = 3 ∨ k = 7 then (if (meantO s x).2 ≥ 0 then ((meantO s x).1, 0) else (0, 71)) else (0, 80)
set_option maxRecDepth 100000 in
set_option maxHeartbeats 40000000 in
theorem inner_sr (n : Nat) (s : So5) (k : Int) (nm : ByteArray) (h : Hd) (l : List Ty5) (c : Nat) (w : World) (hs : SoH n w s) (hc : SrAt w s c) :
    Calls Tryz.prog 139 #[itV s (srF c), tyV (.mk k nm h l)] w fun e w' => e = .returned (.tuple #[.int .i64 (innerO s (.mk k nm h l)).1, .int .i64 (innerO s (.mk k nm h l)).2]) ∧ Below w.heap.size w w' := by
  obtain ⟨R1, hR1⟩ : ∃ R, R = (innerO s (.mk k nm h l)).1 := ⟨_, rfl⟩
  obtain ⟨R2, hR2⟩ : ∃ R, R = (innerO s (.mk k nm h l)).2 := ⟨_, rfl⟩
  rw [← hR1, ← hR2]
  have hme : ∀ W, Below w.heap.size w W → Calls Tryz.prog 155 #[itV s (srF c), tyV (.mk k nm h l)] W fun e w' => e = .returned (.tuple #[.agg #[.int .i64 (meantO s (.mk k nm h l)).1, .int .i64 (meantO s (.mk k nm h l)).2], .bool (decide ((meantO s (.mk k nm h l)).2 ≥ 0))]) ∧ Below W.heap.size W w' := fun W hW => meant_sr n s k nm h l c W (SoH.below hs hW) (hc.below hW)
  unfold innerO at hR1 hR2
  obtain ⟨p, hp⟩ : ∃ p, p = (meantO s (.mk k nm h l)).1 := ⟨_, rfl⟩
  obtain ⟨q, hq⟩ : ∃ q, q = (meantO s (.mk k nm h l)).2 := ⟨_, rfl⟩
  simp only [← hp, ← hq] at hR1 hR2 hme
  obtain ⟨n1, hn1⟩ : ∃ k, s.structs.length = k := ⟨_, rfl⟩
  obtain ⟨n2, hn2⟩ : ∃ k, s.enums.length = k := ⟨_, rfl⟩
  obtain ⟨n3, hn3⟩ : ∃ k, s.fns.length = k := ⟨_, rfl⟩
  obtain ⟨o1, c1, hh1⟩ : ∃ o c, s.hs = ⟨o, c⟩ := ⟨_, _, rfl⟩
  obtain ⟨o2, c2, hh2⟩ : ∃ o c, s.he = ⟨o, c⟩ := ⟨_, _, rfl⟩
  obtain ⟨o3, c3, hh3⟩ : ∃ o c, s.hf = ⟨o, c⟩ := ⟨_, _, rfl⟩
  unfold itV srF tyV tyC at hme ⊢
  simp only [hh1, hh2, hh3, hn1, hn2, hn3] at hme ⊢
  have HME := Lib.hid hme
  have HR := Lib.hid (And.intro hR1 hR2)
  obtain ⟨W0, hW⟩ : ∃ W, W = (w.alloc (.cells #[.slice o1 n1 c1, .slice o2 n2 c2, .slice o3 n3 c3, .func (.func 135) #[] #[.pointer (some ⟨c, 0, none⟩)]] 176)).alloc (.cells #[.int .i64 k, .string nm, .slice h.oa l.length h.cap] 46) := ⟨_, rfl⟩
  have hb0 : Below w.heap.size w W0 := by rw [hW]; exact (alloc_below w _).alloc (by simp) _
  have hx0 : W0.heap[w.heap.size]? = some (.cells #[.slice o1 n1 c1, .slice o2 n2 c2, .slice o3 n3 c3, .func (.func 135) #[] #[.pointer (some ⟨c, 0, none⟩)]] 176) := by rw [hW]; exact ((alloc_below (w.alloc (.cells #[.slice o1 n1 c1, .slice o2 n2 c2, .slice o3 n3 c3, .func (.func 135) #[] #[.pointer (some ⟨c, 0, none⟩)]] 176)) _).block w.heap.size (by simp)).trans (heap_alloc_new _ _)
  have hx1 : W0.heap[w.heap.size + 1]? = some (.cells #[.int .i64 k, .string nm, .slice h.oa l.length h.cap] 46) := by
    rw [hW]
    have := heap_alloc_new (w.alloc (.cells #[.slice o1 n1 c1, .slice o2 n2 c2, .slice o3 n3 c3, .func (.func 135) #[] #[.pointer (some ⟨c, 0, none⟩)]] 176)) (.cells #[.int .i64 k, .string nm, .slice h.oa l.length h.cap] 46)
    simpa using this
  obtain ⟨N, hN⟩ : ∃ N, N = w.heap.size := ⟨_, rfl⟩
  rw [← hN] at hx0 hx1
  have HX := Lib.hid (And.intro hx0 hx1)
  have HN := Lib.hid hN
  have HB0 := Lib.hid hb0
  clear hme hR1 hR2 hp hq hs hc hx0 hx1 hb0 hn1 hn2 hn3 hh1 hh2 hh3
  by_cases k1 : k = 1
  · subst k1
    go_enter Tryz.func139, Tryz.ntmps139
    go_upto_region 1 with fail
    rw [← hW]
    clear hW
    try simp only [← hN]
    clear hN
    obtain ⟨z0, z1, z2, z3, zf, zl⟩ := cells4p HX.out.1
    obtain ⟨y0, y1, y2, yf, yl⟩ := cells3p HX.out.2
    have HBF := HB0
    clear z0 z1 z2 z3 zf zl y1 y2 yf yl
    go_wp2
    refine bodyPost_ret (v := .tuple #[.int .i64 1, .int .i64 0]) (by simp [results, Tryz.results139, go_sem]) rfl ?_
    exact ⟨by rw [show R1 = 1 from HR.out.1.trans (by simp), show R2 = 0 from HR.out.2.trans (by simp)], HBF.out⟩
  have e1 : (k == 1) = false := by simpa using k1
  by_cases k2 : k = 2
  · subst k2
    clear k1
    by_cases hq0 : q ≥ 0
    · have t1 : decide (q ≥ 0) = true := by simpa using hq0
      have HQ0 := Lib.hid hq0
      clear hq0
      rw [t1] at HME
      clear t1
      go_enter Tryz.func139, Tryz.ntmps139
      go_upto_region 1 with fail
      rw [← hW]
      clear hW
      try simp only [← hN]
      clear hN
      obtain ⟨z0, z1, z2, z3, zf, zl⟩ := cells4p HX.out.1
      obtain ⟨y0, y1, y2, yf, yl⟩ := cells3p HX.out.2
      go_upto_region 8 with (first
        | (go_at_call 155; refine (HME.out W0 HB0.out).mono ?_; rintro e W1 ⟨rfl, hb1⟩; have HB1 := Lib.hid (HB0.out.trans (hb1.mono HB0.out.size)); clear hb1)
        | (refine wpList_store_box rfl 217 (.tmp 6) (.tmp 22) rfl W1.heap.size 0 rfl (.agg #[.int .i64 p, .int .i64 q]) rfl [.int .i64 p, .int .i64 q] rfl [.int .i64 0, .int .i64 0] 217 (heap_alloc_new W1 (.cells #[.int .i64 0, .int .i64 0] 217)) (Nat.le_refl _) (show (Tryz.prog.info? 217).map (·.size) = some 2 by kernel_rfl) ?c1 W1.heap.size (Nat.le_refl _) (W1.alloc (.cells #[.int .i64 0, .int .i64 0] 217)) (Below.refl _ _) ?_; rotate_left; intro W2 hb hbx hoth))
      try case c1 => first | exact ⟨rfl, rfl⟩ | (intro v hv; simp at hv; first | (rcases hv with rfl | rfl <;> rfl) | (subst hv; rfl))
      have HBF := Lib.hid (HB1.out.trans (((alloc_below W1 (.cells #[.int .i64 0, .int .i64 0] 217)).trans hb).mono HB1.out.size))
      obtain ⟨m0, m1, mf, ml⟩ := cells2p hbx
      clear hb hbx hoth z0 z1 z2 z3 zf zl y0 y1 y2 yf yl
      go_wp2
      refine bodyPost_ret (v := .tuple #[.int .i64 p, .int .i64 0]) (by simp [results, Tryz.results139, go_sem]) rfl ?_
      exact ⟨by rw [show R1 = p from HR.out.1.trans (by simp [HQ0.out]), show R2 = 0 from HR.out.2.trans (by simp [HQ0.out])], HBF.out⟩
    · have t1 : decide (q ≥ 0) = false := by simpa using hq0
      have HQ0 := Lib.hid hq0
      clear hq0
      rw [t1] at HME
      clear t1
      go_enter Tryz.func139, Tryz.ntmps139
      go_upto_region 1 with fail
      rw [← hW]
      clear hW
      try simp only [← hN]
      clear hN
      obtain ⟨z0, z1, z2, z3, zf, zl⟩ := cells4p HX.out.1
      obtain ⟨y0, y1, y2, yf, yl⟩ := cells3p HX.out.2
      go_upto_region 8 with (first
        | (go_at_call 155; refine (HME.out W0 HB0.out).mono ?_; rintro e W1 ⟨rfl, hb1⟩; have HB1 := Lib.hid (HB0.out.trans (hb1.mono HB0.out.size)); clear hb1)
        | (refine wpList_store_box rfl 217 (.tmp 6) (.tmp 22) rfl W1.heap.size 0 rfl (.agg #[.int .i64 p, .int .i64 q]) rfl [.int .i64 p, .int .i64 q] rfl [.int .i64 0, .int .i64 0] 217 (heap_alloc_new W1 (.cells #[.int .i64 0, .int .i64 0] 217)) (Nat.le_refl _) (show (Tryz.prog.info? 217).map (·.size) = some 2 by kernel_rfl) ?c2 W1.heap.size (Nat.le_refl _) (W1.alloc (.cells #[.int .i64 0, .int .i64 0] 217)) (Below.refl _ _) ?_; rotate_left; intro W2 hb hbx hoth))
      try case c2 => first | exact ⟨rfl, rfl⟩ | (intro v hv; simp at hv; first | (rcases hv with rfl | rfl <;> rfl) | (subst hv; rfl))
      have HBF := Lib.hid (HB1.out.trans (((alloc_below W1 (.cells #[.int .i64 0, .int .i64 0] 217)).trans hb).mono HB1.out.size))
      obtain ⟨m0, m1, mf, ml⟩ := cells2p hbx
      clear hb hbx hoth z0 z1 z2 z3 zf zl y0 y1 y2 yf yl
      go_wp2
      refine bodyPost_ret (v := .tuple #[.int .i64 0, .int .i64 71]) (by simp [results, Tryz.results139, go_sem]) rfl ?_
      exact ⟨by rw [show R1 = 0 from HR.out.1.trans (by simp [(show ¬ q ≥ 0 by have := HQ0.out; omega)]), show R2 = 71 from HR.out.2.trans (by simp [(show ¬ q ≥ 0 by have := HQ0.out; omega)])], HBF.out⟩
  have e2 : (k == 2) = false := by simpa using k2
  by_cases k3 : k = 3
  · subst k3
    clear k1 k2
    by_cases hq0 : q ≥ 0
    · have t1 : decide (q ≥ 0) = true := by simpa using hq0
      have HQ0 := Lib.hid hq0
      clear hq0
      rw [t1] at HME
      clear t1
      go_enter Tryz.func139, Tryz.ntmps139
      go_upto_region 1 with fail
      rw [← hW]
      clear hW
      try simp only [← hN]
      clear hN
      obtain ⟨z0, z1, z2, z3, zf, zl⟩ := cells4p HX.out.1
      obtain ⟨y0, y1, y2, yf, yl⟩ := cells3p HX.out.2
      go_upto_region 8 with (first
        | (go_at_call 155; refine (HME.out W0 HB0.out).mono ?_; rintro e W1 ⟨rfl, hb1⟩; have HB1 := Lib.hid (HB0.out.trans (hb1.mono HB0.out.size)); clear hb1)
        | (refine wpList_store_box rfl 217 (.tmp 6) (.tmp 22) rfl W1.heap.size 0 rfl (.agg #[.int .i64 p, .int .i64 q]) rfl [.int .i64 p, .int .i64 q] rfl [.int .i64 0, .int .i64 0] 217 (heap_alloc_new W1 (.cells #[.int .i64 0, .int .i64 0] 217)) (Nat.le_refl _) (show (Tryz.prog.info? 217).map (·.size) = some 2 by kernel_rfl) ?c3 W1.heap.size (Nat.le_refl _) (W1.alloc (.cells #[.int .i64 0, .int .i64 0] 217)) (Below.refl _ _) ?_; rotate_left; intro W2 hb hbx hoth))
      try case c3 => first | exact ⟨rfl, rfl⟩ | (intro v hv; simp at hv; first | (rcases hv with rfl | rfl <;> rfl) | (subst hv; rfl))
      have HBF := Lib.hid (HB1.out.trans (((alloc_below W1 (.cells #[.int .i64 0, .int .i64 0] 217)).trans hb).mono HB1.out.size))
      obtain ⟨m0, m1, mf, ml⟩ := cells2p hbx
      clear hb hbx hoth z0 z1 z2 z3 zf zl y0 y1 y2 yf yl
      go_wp2
      refine bodyPost_ret (v := .tuple #[.int .i64 p, .int .i64 0]) (by simp [results, Tryz.results139, go_sem]) rfl ?_
      exact ⟨by rw [show R1 = p from HR.out.1.trans (by simp [HQ0.out]), show R2 = 0 from HR.out.2.trans (by simp [HQ0.out])], HBF.out⟩
    · have t1 : decide (q ≥ 0) = false := by simpa using hq0
      have HQ0 := Lib.hid hq0
      clear hq0
      rw [t1] at HME
      clear t1
      go_enter Tryz.func139, Tryz.ntmps139
      go_upto_region 1 with fail
      rw [← hW]
      clear hW
      try simp only [← hN]
      clear hN
      obtain ⟨z0, z1, z2, z3, zf, zl⟩ := cells4p HX.out.1
      obtain ⟨y0, y1, y2, yf, yl⟩ := cells3p HX.out.2
      go_upto_region 8 with (first
        | (go_at_call 155; refine (HME.out W0 HB0.out).mono ?_; rintro e W1 ⟨rfl, hb1⟩; have HB1 := Lib.hid (HB0.out.trans (hb1.mono HB0.out.size)); clear hb1)
        | (refine wpList_store_box rfl 217 (.tmp 6) (.tmp 22) rfl W1.heap.size 0 rfl (.agg #[.int .i64 p, .int .i64 q]) rfl [.int .i64 p, .int .i64 q] rfl [.int .i64 0, .int .i64 0] 217 (heap_alloc_new W1 (.cells #[.int .i64 0, .int .i64 0] 217)) (Nat.le_refl _) (show (Tryz.prog.info? 217).map (·.size) = some 2 by kernel_rfl) ?c4 W1.heap.size (Nat.le_refl _) (W1.alloc (.cells #[.int .i64 0, .int .i64 0] 217)) (Below.refl _ _) ?_; rotate_left; intro W2 hb hbx hoth))
      try case c4 => first | exact ⟨rfl, rfl⟩ | (intro v hv; simp at hv; first | (rcases hv with rfl | rfl <;> rfl) | (subst hv; rfl))
      have HBF := Lib.hid (HB1.out.trans (((alloc_below W1 (.cells #[.int .i64 0, .int .i64 0] 217)).trans hb).mono HB1.out.size))
      obtain ⟨m0, m1, mf, ml⟩ := cells2p hbx
      clear hb hbx hoth z0 z1 z2 z3 zf zl y0 y1 y2 yf yl
      go_wp2
      refine bodyPost_ret (v := .tuple #[.int .i64 0, .int .i64 71]) (by simp [results, Tryz.results139, go_sem]) rfl ?_
      exact ⟨by rw [show R1 = 0 from HR.out.1.trans (by simp [(show ¬ q ≥ 0 by have := HQ0.out; omega)]), show R2 = 71 from HR.out.2.trans (by simp [(show ¬ q ≥ 0 by have := HQ0.out; omega)])], HBF.out⟩
  have e3 : (k == 3) = false := by simpa using k3
  by_cases k7 : k = 7
  · subst k7
    clear k1 k2 k3
    by_cases hq0 : q ≥ 0
    · have t1 : decide (q ≥ 0) = true := by simpa using hq0
      have HQ0 := Lib.hid hq0
      clear hq0
      rw [t1] at HME
      clear t1
      go_enter Tryz.func139, Tryz.ntmps139
      go_upto_region 1 with fail
      rw [← hW]
      clear hW
      try simp only [← hN]
      clear hN
      obtain ⟨z0, z1, z2, z3, zf, zl⟩ := cells4p HX.out.1
      obtain ⟨y0, y1, y2, yf, yl⟩ := cells3p HX.out.2
      go_upto_region 8 with (first
        | (go_at_call 155; refine (HME.out W0 HB0.out).mono ?_; rintro e W1 ⟨rfl, hb1⟩; have HB1 := Lib.hid (HB0.out.trans (hb1.mono HB0.out.size)); clear hb1)
        | (refine wpList_store_box rfl 217 (.tmp 6) (.tmp 22) rfl W1.heap.size 0 rfl (.agg #[.int .i64 p, .int .i64 q]) rfl [.int .i64 p, .int .i64 q] rfl [.int .i64 0, .int .i64 0] 217 (heap_alloc_new W1 (.cells #[.int .i64 0, .int .i64 0] 217)) (Nat.le_refl _) (show (Tryz.prog.info? 217).map (·.size) = some 2 by kernel_rfl) ?c5 W1.heap.size (Nat.le_refl _) (W1.alloc (.cells #[.int .i64 0, .int .i64 0] 217)) (Below.refl _ _) ?_; rotate_left; intro W2 hb hbx hoth))
      try case c5 => first | exact ⟨rfl, rfl⟩ | (intro v hv; simp at hv; first | (rcases hv with rfl | rfl <;> rfl) | (subst hv; rfl))
      have HBF := Lib.hid (HB1.out.trans (((alloc_below W1 (.cells #[.int .i64 0, .int .i64 0] 217)).trans hb).mono HB1.out.size))
      obtain ⟨m0, m1, mf, ml⟩ := cells2p hbx
      clear hb hbx hoth z0 z1 z2 z3 zf zl y0 y1 y2 yf yl
      go_wp2
      refine bodyPost_ret (v := .tuple #[.int .i64 p, .int .i64 0]) (by simp [results, Tryz.results139, go_sem]) rfl ?_
      exact ⟨by rw [show R1 = p from HR.out.1.trans (by simp [HQ0.out]), show R2 = 0 from HR.out.2.trans (by simp [HQ0.out])], HBF.out⟩
    · have t1 : decide (q ≥ 0) = false := by simpa using hq0
      have HQ0 := Lib.hid hq0
      clear hq0
      rw [t1] at HME
      clear t1
      go_enter Tryz.func139, Tryz.ntmps139
      go_upto_region 1 with fail
      rw [← hW]
      clear hW
      try simp only [← hN]
      clear hN
      obtain ⟨z0, z1, z2, z3, zf, zl⟩ := cells4p HX.out.1
      obtain ⟨y0, y1, y2, yf, yl⟩ := cells3p HX.out.2
      go_upto_region 8 with (first
        | (go_at_call 155; refine (HME.out W0 HB0.out).mono ?_; rintro e W1 ⟨rfl, hb1⟩; have HB1 := Lib.hid (HB0.out.trans (hb1.mono HB0.out.size)); clear hb1)
        | (refine wpList_store_box rfl 217 (.tmp 6) (.tmp 22) rfl W1.heap.size 0 rfl (.agg #[.int .i64 p, .int .i64 q]) rfl [.int .i64 p, .int .i64 q] rfl [.int .i64 0, .int .i64 0] 217 (heap_alloc_new W1 (.cells #[.int .i64 0, .int .i64 0] 217)) (Nat.le_refl _) (show (Tryz.prog.info? 217).map (·.size) = some 2 by kernel_rfl) ?c6 W1.heap.size (Nat.le_refl _) (W1.alloc (.cells #[.int .i64 0, .int .i64 0] 217)) (Below.refl _ _) ?_; rotate_left; intro W2 hb hbx hoth))
      try case c6 => first | exact ⟨rfl, rfl⟩ | (intro v hv; simp at hv; first | (rcases hv with rfl | rfl <;> rfl) | (subst hv; rfl))
      have HBF := Lib.hid (HB1.out.trans (((alloc_below W1 (.cells #[.int .i64 0, .int .i64 0] 217)).trans hb).mono HB1.out.size))
      obtain ⟨m0, m1, mf, ml⟩ := cells2p hbx
      clear hb hbx hoth z0 z1 z2 z3 zf zl y0 y1 y2 yf yl
      go_wp2
      refine bodyPost_ret (v := .tuple #[.int .i64 0, .int .i64 71]) (by simp [results, Tryz.results139, go_sem]) rfl ?_
      exact ⟨by rw [show R1 = 0 from HR.out.1.trans (by simp [(show ¬ q ≥ 0 by have := HQ0.out; omega)]), show R2 = 71 from HR.out.2.trans (by simp [(show ¬ q ≥ 0 by have := HQ0.out; omega)])], HBF.out⟩
  have e7 : (k == 7) = false := by simpa using k7
  have HKK := Lib.hid (And.intro k1 (And.intro k2 (And.intro k3 k7)))
  clear k1 k2 k3 k7
  go_enter Tryz.func139, Tryz.ntmps139
  go_upto_region 1 with fail
  rw [← hW]
  clear hW
  try simp only [← hN]
  clear hN
  obtain ⟨z0, z1, z2, z3, zf, zl⟩ := cells4p HX.out.1
  obtain ⟨y0, y1, y2, yf, yl⟩ := cells3p HX.out.2
  have HBF := HB0
  clear z0 z1 z2 z3 zf zl y1 y2 yf yl
  go_wp2
  refine bodyPost_ret (v := .tuple #[.int .i64 0, .int .i64 80]) (by simp [results, Tryz.results139, go_sem]) rfl ?_
  exact ⟨by rw [show R1 = 0 from HR.out.1.trans (by simp [HKK.out.1, HKK.out.2.1, HKK.out.2.2.1, HKK.out.2.2.2]), show R2 = 80 from HR.out.2.trans (by simp [HKK.out.1, HKK.out.2.1, HKK.out.2.2.1, HKK.out.2.2.2])], HBF.out⟩

end Go.Proofs.YtghkbihgdabamaaGreatDoor

namespace Go.Proofs.YtghkbihgdabamaaGreatDoor
open Go.RowKit

theorem run_append_owned_zero {P : Program} {w : World} (base t ty e : TypeId) (i : TypeInfo) (size : Nat) (ht : P.underlying t = some (.slice e)) (hi : P.info? e = some i)
    (v : Value) (n : Nat) (xs : List Value) (hown : w.ownsRow base e size v n xs) (oa : Option Addr) (c : Nat) :
    (Builtin.append_ #[t, t] ty #[v, .slice oa 0 c]).run P w = .ok v w := by
  have hf : ∀ W : World, (Builtin.firstCells i.size 0 (.slice oa 0 c)).run P W = .ok #[] W := fun W => by
    cases oa with
    | none => simp [Builtin.firstCells]
    | some a => exact run_firstCells_some W i.size 0 a 0 c [] (by simp) (by simp)
  rcases hown.2 with ⟨rfl, rfl⟩ | ⟨g, cap, cur, rfl, _, _, hnc, _⟩
  · simp [Builtin.append_, run_underlying ht, sizeOf, typeInfo, hi, Builtin.lenOf, hf]
  · simp [Builtin.append_, run_underlying ht, sizeOf, typeInfo, hi, Builtin.lenOf, hf, hnc, storeCells]
theorem addr_add0 (g o j : Nat) : ((⟨g, o, none⟩ : Addr).add j) = ⟨g, o + j, none⟩ := by unfold Addr.add; split <;> simp_all
theorem flat_len {α : Type} {C : α → List Value} {sz : Nat} (hC : ∀ x, (C x).length = sz) : ∀ l : List α, (l.flatMap C).length = l.length * sz
  | [] => by simp
  | x :: l => by rw [List.flatMap_cons, List.length_append, hC, flat_len hC l, List.length_cons, Nat.add_mul, Nat.one_mul]; omega
theorem row_news {α : Type} {w : World} {h : Hd} {sz : Nat} {l : List α} {C : α → List Value} {Q : α → Prop} (r : Row w h sz l C Q) (hC : ∀ x, (C x).length = sz) (hl : 0 < l.length) :
    ∃ a, h.oa = some a ∧ ∀ j u, (l.flatMap C)[j]? = some u → w.cell? (a.add j) = some u := by
  obtain ⟨b, off, h1, _, h3⟩ := r.2.2.1 hl
  refine ⟨_, h1, fun j u hu => ?_⟩
  rw [addr_add0]
  have hlen : (l.flatMap C).length = l.length * sz := flat_len hC l
  have hj := (List.getElem?_eq_some_iff.1 hu).1
  rw [hlen] at hj
  have hsz : 0 < sz := by
    rcases Nat.eq_zero_or_pos sz with h | h
    · rw [h] at hj; omega
    · exact h
  have hi : j / sz < l.length := (Nat.div_lt_iff_lt_mul hsz).2 hj
  have hx : l[j / sz]? = some l[j / sz] := List.getElem?_eq_getElem hi
  have hm : j % sz < sz := Nat.mod_lt _ hsz
  have hfl := flat_get C sz hC l (j / sz) (j % sz) _ hx hm
  have e1 : j / sz * sz + j % sz = j := Nat.div_add_mod' j sz
  rw [e1, hu] at hfl
  have := h3 (j / sz) _ hx (j % sz) u hfl.symm
  rw [Nat.add_assoc, e1] at this
  exact this
/-- At the operation. -/
theorem wp_append_row {α : Type} {P : Program} {w : World} {o : Oper} {a : Act} {K : Act → World → Prop} {Q : Exit → Act → World → Prop} (s x : Operand) (t : TypeId)
    (ho : o.op = .call { callee := .builtin .append, args := #[s, x], argTypes := #[t, t] })
    (base : Nat) (e : TypeId) (i : TypeInfo) (z : Value) (size bytes : Nat) (ht : P.underlying t = some (.slice e)) (hi : P.info? e = some i) (hz : i.zero = some z)
    (hsize : i.size = size) (hby : i.bytes = bytes) (hzs : z.cells.size = size) (hsz : 0 < size)
    (v : Value) (n : Nat) (xs : List Value) (hs : a.eval s = v) (hown : w.ownsRow base e size v n xs)
    {h : Hd} {l : List α} {C : α → List Value} {R : α → Prop} (oa : Option Addr) (k c m : Nat) (hx : a.eval x = .slice oa k c) (hoa : oa = h.oa) (hl : l.length = k) (hm : n + k = m) (hr : Row w h size l C R) (hC : ∀ x, (C x).length = size) (h1 : ∀ x, ∀ u ∈ C x, u.oneCell' = true)
    (h63 : m ≤ maxLen) (hbytes : m * bytes ≤ 140737488355328) (hbase : base ≤ w.heap.size)
    (hk : ∀ oa' c' w', w'.ownsRow base e size (.slice oa' m c') m (xs ++ l.flatMap C) → w.grownBy w' v.ownBlock → (∀ b, (Value.slice oa' m c').ownBlock = some b → v.ownBlock = some b ∨ w.heap.size ≤ b) → K (a.put o.dst (.slice oa' m c')) w') : o.wp P a w K Q := by
  subst hoa hl hm
  rcases Nat.eq_zero_or_pos l.length with hl | hl
  · obtain rfl : l = [] := List.length_eq_zero_iff.1 hl
    have hrun := run_append_owned_zero (P := P) (w := w) base t o.type e i size ht hi v n xs hown h.oa c
    unfold Oper.wp execOp
    rw [List.length_nil] at hx
    simp only [ho, resolve, invoke, builtin, Sem.run_bind, Sem.run_pure, Result.andThen_ok, List.map_toArray, List.map_cons, List.map_nil, hs, hx, hrun]
    have hv : ∃ oa' c', v = .slice oa' n c' := by
      rcases hown.2 with ⟨rfl, rfl⟩ | ⟨g, cap, cur, rfl, _⟩
      · exact ⟨_, _, rfl⟩
      · exact ⟨_, _, rfl⟩
    obtain ⟨oa', c', rfl⟩ := hv
    exact hk oa' c' w (by simpa using hown) ⟨rfl, rfl, rfl, Nat.le_refl _, fun _ _ _ => rfl⟩ fun b hb => .inl hb
  · obtain ⟨ad, had, hnews⟩ := row_news hr hC hl
    rw [had] at hx
    refine wp_append_lies w s x t ho base e i z size bytes ht hi hz hsize hby hzs hsz v n xs hs hown ad l.length c (l.flatMap C) hx ?_ hnews (fun u hu => ?_) hl h63 hbytes hbase _ rfl fun g cap w' h2 h3 h4 _ => hk _ _ w' h2 h3 fun b hb => ?_
    · exact flat_len hC l
    · obtain ⟨y, _, hy⟩ := List.mem_flatMap.1 hu
      exact h1 y u hy
    · have hgb : g = b := by simpa [Value.ownBlock] using hb
      rw [← hgb]
      rcases h4 with h4 | h4
      · exact .inl h4
      · exact .inr (by omega)
theorem wpList_append_row {α : Type} {P : Program} {w : World} {ops : Array Oper} {rest : List Oper} {o : Oper} {a : Act} {Q : Exit → Act → World → Prop} (hgd : o.guard = none) (s x : Operand) (t : TypeId)
    (ho : o.op = .call { callee := .builtin .append, args := #[s, x], argTypes := #[t, t] })
    (base : Nat) (e : TypeId) (i : TypeInfo) (z : Value) (size bytes : Nat) (ht : P.underlying t = some (.slice e)) (hi : P.info? e = some i) (hz : i.zero = some z)
    (hsize : i.size = size) (hby : i.bytes = bytes) (hzs : z.cells.size = size) (hsz : 0 < size)
    (v : Value) (n : Nat) (xs : List Value) (hs : a.eval s = v) (hown : w.ownsRow base e size v n xs)
    {h : Hd} {l : List α} {C : α → List Value} {R : α → Prop} (oa : Option Addr) (k c m : Nat) (hx : a.eval x = .slice oa k c) (hoa : oa = h.oa) (hl : l.length = k) (hm : n + k = m) (hr : Row w h size l C R) (hC : ∀ x, (C x).length = size) (h1 : ∀ x, ∀ u ∈ C x, u.oneCell' = true)
    (h63 : m ≤ maxLen) (hbytes : m * bytes ≤ 140737488355328) (hbase : base ≤ w.heap.size)
    (hk : ∀ oa' c' w', w'.ownsRow base e size (.slice oa' m c') m (xs ++ l.flatMap C) → w.grownBy w' v.ownBlock → (∀ b, (Value.slice oa' m c').ownBlock = some b → v.ownBlock = some b ∨ w.heap.size ≤ b) → wpList P ops Q rest (a.put o.dst (.slice oa' m c')) w') : wpList P ops Q (o :: rest) a w :=
  wpList_plain hgd fun _ hK => wp_append_row s x t ho base e i z size bytes ht hi hz hsize hby hzs hsz v n xs hs hown oa k c m hx hoa hl hm hr hC h1 h63 hbytes hbase fun oa' c' w' h2 h3 h4 => hK _ _ (hk oa' c' w' h2 h3 h4)
/-- a row of the call's own, read -/
theorem row_of_own {α : Type} {w : World} {B e sz : Nat} {v : Value} {C : α → List Value} {Q : α → Prop} {xs : List α} (ho : w.ownsRow B e sz v xs.length (xs.flatMap C)) (hC : ∀ x, (C x).length = sz) (hq : ∀ x ∈ xs, Q x) :
    ∃ h : Hd, v = .slice h.oa xs.length h.cap ∧ Row w h sz xs C Q := by
  rcases ho.2 with ⟨rfl, hz0⟩ | ⟨g, cap, cur, rfl, hbb, hgg, h1, h2, h3, h4⟩
  · obtain rfl : xs = [] := List.length_eq_zero_iff.1 hz0
    exact ⟨h0, rfl, Row.nil _ _ _ _⟩
  · refine ⟨⟨some ⟨g, 0, none⟩, cap⟩, rfl, h1, h2, fun _ => ⟨g, 0, rfl, (Array.getElem?_eq_some_iff.1 hgg).1, fun i x hx j u hu => ?_⟩, hq⟩
    have hj : j < sz := by rw [← hC x]; exact (List.getElem?_eq_some_iff.1 hu).1
    have hfl := flat_get C sz hC xs i j x hx hj
    rw [hu] at hfl
    have hc := ho.cells (g := g) rfl (i * sz + j) u hfl
    rw [addr_add0] at hc
    rw [Nat.zero_add] at hc ⊢
    exact hc
/-- a source that is put together out of rows -/
structure StG (K : Nat) (w0 w : World) (v1 v2 v3 : Value) (l1 : List Su5) (l2 : List En5) (l3 : List Fn5) : Prop where
  bel : Below K w0 w
  box : w.heap[K]? = some (.cells #[v1, v2, v3] 26)
  o1 : w.ownsRow (K + 1) 71 4 v1 l1.length (l1.flatMap suC)
  o2 : w.ownsRow (K + 1) 74 3 v2 l2.length (l2.flatMap enC)
  o3 : w.ownsRow (K + 1) 79 4 v3 l3.length (l3.flatMap fnC)
theorem own_types {a b : Value} {w : World} {B e e' n n' s s' : Nat} {xs ys : List Value} (h : w.ownsRow B e s a n xs) (h' : w.ownsRow B e' s' b n' ys) (hne : e ≠ e') : a.ownBlock = none ∨ a.ownBlock ≠ b.ownBlock := by
  cases hx : a.ownBlock with
  | none => exact .inl rfl
  | some x =>
    refine .inr fun hy => ?_
    obtain ⟨c1, h1⟩ := own_blk h hx
    obtain ⟨c2, h2⟩ := own_blk h' hy.symm
    rw [h1] at h2
    simp only [Option.some.injEq, Obj.cells.injEq] at h2
    exact hne h2.2.1
section
variable {K : Nat} {w0 w w' : World} {v1 v2 v3 v' : Value} {l1 l : List Su5} {l2 le : List En5} {l3 lf : List Fn5}
theorem StG.lt (h : StG K w0 w v1 v2 v3 l1 l2 l3) : K < w.heap.size := (Array.getElem?_eq_some_iff.1 h.box).1
theorem below_grown_set {row : Option Nat} (hb : Below K w0 w) (hk : K < w.heap.size) (hg : w.grownBy w' row) (hr : ∀ b, row = some b → K + 1 ≤ b) (j : Nat) : Below K w0 (w'.setCell ⟨K, j, none⟩ v') := by
  exact (hb.grown hg (by omega) fun b hb => by have := hr b hb; omega).setCell (p := ⟨K, j, none⟩) (Nat.le_refl _) v'
theorem own_set {e sz n : Nat} {v : Value} {ys : List Value} (h : w'.ownsRow (K + 1) e sz v n ys) (j : Nat) (u : Value) : (w'.setCell ⟨K, j, none⟩ u).ownsRow (K + 1) e sz v n ys :=
  own_keep h fun b hb => Below.heap_setCell _ _ _ _ (show b ≠ K by have := (own_lt h hb).1; omega)
theorem box_set {row : Option Nat} {c : Array Value} {T : TypeId} (hb : w.heap[K]? = some (.cells c T)) (hg : w.grownBy w' row) (hr : ∀ b, row = some b → K + 1 ≤ b) (j : Nat) (u : Value) : (w'.setCell ⟨K, j, none⟩ u).heap[K]? = some (.cells (c.setIfInBounds j u) T) := by
  have h1 : w'.heap[K]? = some (.cells c T) := (hg.block K (Array.getElem?_eq_some_iff.1 hb).1 fun e => by have := hr K e.symm; omega).trans hb
  have := heap_setCell_same w' K j _ _ u h1
  simpa using this
theorem StG.s1 (h : StG K w0 w v1 v2 v3 l1 l2 l3) {m : Nat} (hm : (l1 ++ l).length = m) (ho : w'.ownsRow (K + 1) 71 4 v' m (l1.flatMap suC ++ l.flatMap suC)) (hg : w.grownBy w' v1.ownBlock) : StG K w0 (w'.setCell ⟨K, 0, none⟩ v') v' v2 v3 (l1 ++ l) l2 l3 := by
  have hr : ∀ b, v1.ownBlock = some b → K + 1 ≤ b := fun b hb => (own_lt h.o1 hb).1
  refine ⟨below_grown_set h.bel h.lt hg hr 0, by simpa using box_set h.box hg hr 0 v', own_set (by rw [hm, List.flatMap_append]; exact ho) _ _, own_set (h.o2.kept hg (own_types h.o2 h.o1 (by decide))) _ _, own_set (h.o3.kept hg (own_types h.o3 h.o1 (by decide))) _ _⟩
theorem StG.s2 (h : StG K w0 w v1 v2 v3 l1 l2 l3) {m : Nat} (hm : (l2 ++ le).length = m) (ho : w'.ownsRow (K + 1) 74 3 v' m (l2.flatMap enC ++ le.flatMap enC)) (hg : w.grownBy w' v2.ownBlock) : StG K w0 (w'.setCell ⟨K, 1, none⟩ v') v1 v' v3 l1 (l2 ++ le) l3 := by
  have hr : ∀ b, v2.ownBlock = some b → K + 1 ≤ b := fun b hb => (own_lt h.o2 hb).1
  refine ⟨below_grown_set h.bel h.lt hg hr 1, by simpa using box_set h.box hg hr 1 v', own_set (h.o1.kept hg (own_types h.o1 h.o2 (by decide))) _ _, own_set (by rw [hm, List.flatMap_append]; exact ho) _ _, own_set (h.o3.kept hg (own_types h.o3 h.o2 (by decide))) _ _⟩
theorem StG.s3 (h : StG K w0 w v1 v2 v3 l1 l2 l3) {m : Nat} (hm : (l3 ++ lf).length = m) (ho : w'.ownsRow (K + 1) 79 4 v' m (l3.flatMap fnC ++ lf.flatMap fnC)) (hg : w.grownBy w' v3.ownBlock) : StG K w0 (w'.setCell ⟨K, 2, none⟩ v') v1 v2 v' l1 l2 (l3 ++ lf) := by
  have hr : ∀ b, v3.ownBlock = some b → K + 1 ≤ b := fun b hb => (own_lt h.o3 hb).1
  refine ⟨below_grown_set h.bel h.lt hg hr 2, by simpa using box_set h.box hg hr 2 v', own_set (h.o1.kept hg (own_types h.o1 h.o3 (by decide))) _ _, own_set (h.o2.kept hg (own_types h.o2 h.o3 (by decide))) _ _, own_set (by rw [hm, List.flatMap_append]; exact ho) _ _⟩
end

end Go.Proofs.YtghkbihgdabamaaGreatDoor

namespace Go.Proofs.YtghkbihgdabamaaGreatDoor
open Go.RowKit

theorem infoTy : (Tryz.prog.info? 46).map (fun i => (i.zero, i.size, i.bytes)) = some (some (.agg #[.int .i64 0, .string ⟨#[]⟩, .slice none 0 0]), 3, 48) := by kernel_rfl
theorem tyC_one : ∀ x, ∀ u ∈ tyC x, u.oneCell' = true := fun x u hu => by
  obtain ⟨k, nm, h, l⟩ := x
  simp [tyC] at hu
  rcases hu with rfl | rfl | rfl <;> rfl
theorem tyC_len3 : ∀ x, (tyC x).length = 3 := fun x => by cases x; rfl
set_option maxRecDepth 100000 in
set_option maxHeartbeats 4000000 in
theorem clone_any (h : Hd) (l : List Ty5) (Q : Ty5 → Prop) (w : World) (hA : Row w h 3 l tyC Q) (hb : l.length ≤ 1000000) : Calls Tryz.prog 50 #[.slice h.oa l.length h.cap] w fun e w' =>
    ∃ oa c, e = .returned (.slice oa l.length c) ∧ Below w.heap.size w w' ∧ l.length ≤ c ∧ c ≤ maxLen ∧ (0 < l.length → ∃ g ex, oa = some ⟨g, 0, none⟩ ∧ w.heap.size ≤ g ∧ w'.heap[g]? = some (.cells (l.flatMap tyC ++ ex).toArray 46)) := by
  obtain ⟨oa, cap⟩ := h
  obtain ⟨m, hm⟩ : ∃ m, l.length = m := ⟨_, rfl⟩
  have q : ∀ (w : World) (a : Option Addr) (n c n' c' : Nat), (binOp .eql 44 (.slice a n c) (.slice none n' c')).run Tryz.prog w = .ok (.bool a.isNone) w := fun w a n c n' c' => Lib.run_eql_slice_nil w _ _ a n c n' c' Tryz.underlying44
  cases oa with
  | none =>
    have h0 : l.length = 0 := by
      rcases Nat.eq_zero_or_pos l.length with h | h
      · exact h
      · obtain ⟨b, off, h1, _⟩ := hA.2.2.1 h
        cases h1
    obtain rfl : m = 0 := by omega
    rw [hm]
    clear hA hb h0
    simp only
    go_enter Tryz.func50, Tryz.ntmps50
    go_wp2
    go_ret
    exact ⟨none, 0, rfl, Below.refl _ _, Nat.le_refl _, Nat.zero_le _, fun h => absurd h (Nat.lt_irrefl _)⟩
  | some ad =>
    rw [hm] at hb ⊢
    obtain ⟨i, hi1, hi2, hi3, hi4⟩ := info_parts infoTy
    have HI := Lib.hid (And.intro hi1 (And.intro hi2 (And.intro hi3 hi4)))
    have hA2 : Row (w.alloc (.cells #[] 46)) ⟨some ad, cap⟩ 3 l tyC (fun _ => True) := hA.below (alloc_below w _) fun _ _ _ => trivial
    have hown : (w.alloc (.cells #[] 46)).ownsRow w.heap.size 46 3 (.slice (some ⟨w.heap.size, 0, none⟩) 0 0) 0 [] := World.ownsRow_lit w #[] 0 (Nat.le_refl _) (Nat.zero_le _) rfl
    have HO := Lib.hid (And.intro hown (And.intro hA2 (And.intro hm hb)))
    clear hi1 hi2 hi3 hi4 hA hA2 hown hb hm
    go_enter Tryz.func50, Tryz.ntmps50
    go_wp2_with (at_builtin; refine wpList_append_row rfl (.tmp 5) (.tmp 6) 44 rfl w.heap.size 46 i _ 3 48 Tryz.underlying44 HI.out.1 HI.out.2.1 HI.out.2.2.1 HI.out.2.2.2 rfl (by decide) (.slice (some ⟨w.heap.size, 0, none⟩) 0 0) 0 [] rfl HO.out.1 (h := ⟨some ad, cap⟩) (l := l) (some ad) m cap m rfl rfl HO.out.2.2.1 (Nat.zero_add _) HO.out.2.1 tyC_len3 tyC_one ?o3 ?o4 ?o5 ?_)
    case o3 => have := HO.out.2.2.2; unfold maxLen; omega
    case o4 => have := HO.out.2.2.2; omega
    case o5 => simp
    intro oa' c' w' hown hg hv
    have hbw : Below w.heap.size w w' := (alloc_below w (.cells #[] 46)).grown hg (by simp) fun b hb => by simp [Value.ownBlock] at hb; omega
    have HF := Lib.hid (And.intro hown hbw)
    clear hown hg hv hbw
    go_wp2
    go_ret
    refine ⟨oa', c', rfl, HF.out.2, ?_⟩
    have ho := HF.out.1
    rcases ho.2 with ⟨h1, h2⟩ | ⟨g, cap', cur, h1, hbb, hgg, h2, h3, h4, h5⟩
    · subst h2
      simp only [Value.slice.injEq] at h1
      obtain ⟨-, -, rfl⟩ := h1
      exact ⟨Nat.le_refl _, Nat.zero_le _, fun h => absurd h (Nat.lt_irrefl _)⟩
    · simp only [Value.slice.injEq] at h1
      obtain ⟨rfl, -, rfl⟩ := h1
      refine ⟨h2, h3, fun _ => ⟨g, cur.toList.drop (m * 3), rfl, hbb, ?_⟩⟩
      rw [hgg]
      have e1 : (l.flatMap tyC ++ cur.toList.drop (m * 3)) = cur.toList := by
        have : cur.toList.take (m * 3) = l.flatMap tyC := by simpa using h5
        rw [← this, List.take_append_drop]
      rw [e1]

end Go.Proofs.YtghkbihgdabamaaGreatDoor

namespace Go.Proofs.YtghkbihgdabamaaGreatDoor
open Go.RowKit

mutual
def tyN : Ty5 → Nat
  | .mk _ _ _ l => 1 + tysN l
def tysN : List Ty5 → Nat
  | [] => 0
  | x :: l => tyN x + tysN l
end
theorem tyN_pos : ∀ x, 0 < tyN x
  | .mk _ _ _ _ => by rw [tyN]; omega
theorem tysN_len : ∀ l, l.length ≤ tysN l
  | [] => Nat.zero_le _
  | x :: l => by
    have := tyN_pos x
    have := tysN_len l
    rw [tysN, List.length_cons]
    omega
theorem tysN_mem {x : Ty5} : ∀ {l : List Ty5}, x ∈ l → tyN x ≤ tysN l
  | [], h => by cases h
  | y :: l, h => by
    rw [tysN]
    rcases List.mem_cons.1 h with rfl | h
    · omega
    · have := tysN_mem h
      omega
theorem splL_mid : ∀ (vs pre l r : List Value), l.length = vs.length → splL (pre ++ (l ++ r)) pre.length vs = pre ++ (vs ++ r)
  | [], pre, l, r, h => by
    have : l = [] := by simpa using h
    subst this
    simp [splL]
  | v :: vs, pre, [], r, h => by simp at h
  | v :: vs, pre, a :: l, r, h => by
    have e : (pre ++ (a :: l ++ r)).set pre.length v = (pre ++ [v]) ++ (l ++ r) := by simp
    rw [splL, e]
    have := splL_mid vs (pre ++ [v]) l r (by simpa using h)
    rw [show pre.length + 1 = (pre ++ [v]).length by simp, this]
    simp
theorem splL_flat {α : Type} {C : α → List Value} {sz : Nat} (hC : ∀ x, (C x).length = sz) (ys r : List α) (z y : α) (ex : List Value) : splL ((ys ++ z :: r).flatMap C ++ ex) (ys.length * sz) (C y) = (ys ++ y :: r).flatMap C ++ ex := by
  have e : ∀ q : α, (ys ++ q :: r).flatMap C ++ ex = ys.flatMap C ++ (C q ++ (r.flatMap C ++ ex)) := fun q => by simp
  rw [e z, e y, ← flat_len hC ys]
  exact splL_mid _ _ _ _ ((hC z).trans (hC y).symm)
theorem block_cell {w : World} {g : Nat} {L : List Value} {T : TypeId} (h : w.heap[g]? = some (.cells L.toArray T)) {j : Nat} {v : Value} (hv : L[j]? = some v) : w.cell? ⟨g, j, none⟩ = some v := by
  simp only [World.cell?, h]
  simpa using hv
theorem flat_at {α : Type} {C : α → List Value} {sz : Nat} (hC : ∀ x, (C x).length = sz) (ys r : List α) (z : α) (ex : List Value) {j : Nat} {v : Value} (hv : (C z)[j]? = some v) : ((ys ++ z :: r).flatMap C ++ ex)[ys.length * sz + j]? = some v := by
  have e : (ys ++ z :: r).flatMap C ++ ex = ys.flatMap C ++ (C z ++ (r.flatMap C ++ ex)) := by simp
  have hj := (List.getElem?_eq_some_iff.1 hv).1
  rw [e, ← flat_len hC ys, List.getElem?_append_right (by omega), Nat.add_sub_cancel_left, List.getElem?_append_left hj, hv]
set_option maxRecDepth 100000 in
set_option maxHeartbeats 40000000 in
theorem copied_step (n : Nat) (ih : ∀ (x : Ty5) (w : World), TyH n w x → tyN x ≤ 1000000 → Calls Tryz.prog 25 #[tyV x] w fun e w' => ∃ y, e = .returned (tyV y) ∧ Below w.heap.size w w' ∧ erTy y = erTy x ∧ TyH n (eb w' w.heap.size none) y)
    (x : Ty5) (w : World) (hx : TyH (n + 1) w x) (hn : tyN x ≤ 1000000) : Calls Tryz.prog 25 #[tyV x] w fun e w' => ∃ y, e = .returned (tyV y) ∧ Below w.heap.size w w' ∧ erTy y = erTy x ∧ TyH (n + 1) (eb w' w.heap.size none) y := by
  obtain ⟨k, nm, h, l⟩ := x
  obtain ⟨hk, hrow⟩ := hx
  rw [tyN] at hn
  have hlen : l.length ≤ 1000000 := Nat.le_trans (tysN_len l) (by omega)
  have HSM := Lib.hid (show ∀ x ∈ l, tyN x ≤ 1000000 from fun x hx => by have := tysN_mem hx; omega)
  obtain ⟨W0, hW⟩ : ∃ W, W = (w.alloc (.cells #[.int .i64 k, .string nm, .slice h.oa l.length h.cap] 46)).alloc (.cells #[.int .i64 0, .string ⟨#[]⟩, .slice none 0 0] 46) := ⟨_, rfl⟩
  obtain ⟨hb0, hx0, hx1⟩ := pal2 w (.cells #[.int .i64 k, .string nm, .slice h.oa l.length h.cap] 46) (.cells #[.int .i64 0, .string ⟨#[]⟩, .slice none 0 0] 46)
  rw [← hW] at hb0 hx0 hx1
  have hcl := clone_any h l (TyH n W0) W0 (hrow.below hb0 fun _ _ hq => TyH.below n hq hb0) hlen
  have HRW := Lib.hid (show ∀ z ∈ l, ∀ V, Below w.heap.size w V → TyH n V z from fun z hz V hV => TyH.below n (hrow.2.2.2 z hz) hV)
  have HIH := Lib.hid ih
  have HK := Lib.hid hk
  simp only [tyV, tyC]
  obtain ⟨m, hm⟩ : ∃ m, l.length = m := ⟨_, rfl⟩
  rw [hm] at hcl hx0 hlen hW ⊢
  obtain ⟨N, hN⟩ : ∃ N, N = w.heap.size := ⟨_, rfl⟩
  rw [← hN] at hx0 hx1
  have HX := Lib.hid (And.intro hx0 hx1)
  have HN := Lib.hid hN
  have HB0 := Lib.hid hb0
  have HM := Lib.hid hm
  have HCL := Lib.hid hcl
  clear hcl hx0 hx1 hb0 hrow ih hk hn hm
  go_enter Tryz.func25, Tryz.ntmps25
  go_upto_region 1 with fail
  rw [← hW]
  clear hW
  try simp only [← hN]
  clear hN
  obtain ⟨z0, z1, z2, zf, zl⟩ := cells3p HX.out.1
  go_upto_region 2 with
    (go_at_call 50; refine HCL.out.mono ?_; rintro e W1 ⟨oa, c, rfl, hb1, hc1, hc2, hg⟩; have HC := Lib.hid (And.intro hc1 (And.intro hc2 hg)); have HB1 := Lib.hid hb1; obtain ⟨u0, u1, u2, uf, ul⟩ := cells3p ((hb1.block N (blk_lt HX.out.1)).trans HX.out.1); clear hb1 hc1 hc2 hg)
  clear z0 z1 z2 zf zl u0 u1 u2 uf ul
  obtain ⟨g, ex, hg⟩ : ∃ g ex, 0 < m → (oa = some ⟨g, 0, none⟩ ∧ W0.heap.size ≤ g ∧ W1.heap[g]? = some (.cells (l.flatMap tyC ++ ex).toArray 46)) := by
    rcases Nat.eq_zero_or_pos m with h0 | h0
    · exact ⟨0, [], fun h => absurd h (by omega)⟩
    · obtain ⟨g, ex, h1, h2, h3⟩ := HC.out.2.2 h0
      exact ⟨g, ex, fun _ => ⟨h1, h2, h3⟩⟩
  obtain ⟨W2, hW2⟩ : ∃ W, W = W1.setCell ⟨N, 2, none⟩ (.slice oa m c) := ⟨_, rfl⟩
  rw [← hW2]
  have hNl : N < W0.heap.size := blk_lt HX.out.1
  have hN1 : N + 1 < W0.heap.size := blk_lt HX.out.2
  have hn0 : ∀ b, b ≠ N → W2.heap[b]? = W1.heap[b]? := fun b hb => by rw [hW2]; exact Below.heap_setCell _ _ _ _ hb
  have hy0 : W2.heap[N]? = some (.cells #[.int .i64 k, .string nm, .slice oa m c] 46) := by
    have := heap_setCell_same W1 N 2 _ _ (.slice oa m c) ((HB1.out.block N hNl).trans HX.out.1)
    rw [hW2]
    simpa using this
  have hy1 : W2.heap[N + 1]? = some (.cells #[.int .i64 0, .string ⟨#[]⟩, .slice none 0 0] 46) := (hn0 _ (by omega)).trans ((HB1.out.block _ hN1).trans HX.out.2)
  have hs2 : W2.heap.size = W1.heap.size := by rw [hW2]; simp [World.setCell]
  have hb2 : Below w.heap.size w W2 := by
    rw [hW2]
    exact (HB0.out.trans (HB1.out.mono HB0.out.size)).setCell (p := ⟨N, 2, none⟩) (Nat.le_of_eq HN.out.symm) _
  have hg2 : 0 < m → (oa = some ⟨g, 0, none⟩ ∧ W0.heap.size ≤ g ∧ g < W1.heap.size ∧ W2.heap[g]? = some (.cells (l.flatMap tyC ++ ex).toArray 46)) := fun h0 => by
    obtain ⟨h1, h2, h3⟩ := hg h0
    exact ⟨h1, h2, blk_lt h3, (hn0 g (by omega)).trans h3⟩
  have HNL := Lib.hid (And.intro hNl hN1)
  have HY := Lib.hid (And.intro hy0 (And.intro hy1 (And.intro hs2 hb2)))
  have HG := Lib.hid hg2
  clear hn0 hg hg2 hNl hN1 hs2 hb2 hy1 hW2
  obtain ⟨z0, z1, z2, zf, zl⟩ := cells3p hy0
  clear hy0
  go_wp2_with fail
  clear z0 z1 z2 zf zl
  go_loopw [11] (fun u wr => ∃ (j : Nat) (ys : List Ty5), j ≤ m ∧ u = .int .i64 j ∧ ys.length = j ∧ ys.map erTy = (l.take j).map erTy ∧ (∀ z ∈ ys, TyH n (eb wr W1.heap.size none) z) ∧ wr.heap[N]? = some (.cells #[.int .i64 k, .string nm, .slice oa m c] 46) ∧ wr.heap[N + 1]? = some (.cells #[.int .i64 0, .string ⟨#[]⟩, .slice none 0 0] 46) ∧ (0 < m → wr.heap[g]? = some (.cells ((ys ++ l.drop j).flatMap tyC ++ ex).toArray 46)) ∧ Below w.heap.size w wr ∧ W1.heap.size ≤ wr.heap.size) (fun u _ => m - (intOf u).toNat)
  case atStart => exact ⟨0, [], Nat.zero_le _, rfl, rfl, rfl, fun z hz => (by cases hz), HY.out.1, HY.out.2.1, fun h0 => (HG.out h0).2.2.2, HY.out.2.2.2, Nat.le_of_eq HY.out.2.2.1.symm⟩
  case round =>
    obtain ⟨j, ys, hj, rfl, hlas, her, hall, r0, r1, rg, rb, rs⟩ := hrel
    have HR := Lib.hid (And.intro hlas (And.intro her (And.intro hall (And.intro r0 (And.intro r1 (And.intro rg (And.intro rb rs)))))))
    obtain ⟨z0, z1, z2, zf, zl⟩ := cells3p r0
    clear hlas her hall r1 rg rb rs
    by_cases hjm : j < m
    · have t1 : decide ((j : Int) < m) = true := by simp; omega
      have hj0 : (0 : Int) ≤ j := by omega
      have hj1 : (j : Int) < m := by omega
      have hjw : IntKind.i64.wrap (j : Int) = j := by rw [IntKind.wrap_i64]; omega
      obtain ⟨ho, hgl, hgl2, -⟩ := HG.out (by omega)
      subst ho
      obtain ⟨z, hz⟩ : ∃ z, l[j]? = some z := ⟨_, List.getElem?_eq_getElem (by rw [HM.out]; exact hjm)⟩
      have hdz : l.drop j = z :: l.drop (j + 1) := by rw [List.drop_eq_getElem_cons (by rw [HM.out]; exact hjm)]; rw [List.getElem?_eq_getElem (by rw [HM.out]; exact hjm)] at hz; rw [Option.some.inj hz]
      have hrg : wr.heap[g]? = some (.cells ((ys ++ z :: l.drop (j + 1)).flatMap tyC ++ ex).toArray 46) := by rw [← hdz]; exact HR.out.2.2.2.2.2.1 (by omega)
      have hzt : TyH n wr.drew z := HRW.out z (List.mem_of_getElem? hz) _ (HR.out.2.2.2.2.2.2.1.trans ⟨rfl, rfl, rfl, Nat.le_refl _, fun _ _ => rfl⟩)
      have hcall := HIH.out z wr.drew hzt (HSM.out z (List.mem_of_getElem? hz))
      have HZ := Lib.hid (And.intro hz (And.intro hdz hrg))
      have hat : ∀ i v, (tyC z)[i]? = some v → wr.cell? ⟨g, j * 3 + i, none⟩ = some v := fun i v hv => by
        have := flat_at tyC_len3 ys (l.drop (j + 1)) z ex hv
        rw [HR.out.1] at this
        exact block_cell hrg this
      obtain ⟨k1, nm1, h1, l1⟩ := z
      have q0 := hat 0 _ rfl
      have q1 := hat 1 _ rfl
      have q2 := hat 2 _ rfl
      rw [Nat.add_zero] at q0
      simp only [tyV, tyC] at hcall
      have HCALL := Lib.hid hcall
      have HGL := Lib.hid (And.intro hgl hgl2)
      clear hz hdz hrg hzt hcall hat hgl hgl2
      go_wp2_with fail
      refine wp_region_held_drew (S := (fun w' => w'.cell? ⟨N, 2, none⟩ = some (.slice (some ⟨g, 0, none⟩) m c))) (by kernel_rfl) ?_ (fun hHeld => ?_)
      · exact z2
      refine wpAnyH_take (i := 0) (oi := { dst := some 14, op := Op.fieldAddr 46 (Operand.tmp 1) 2, type := 0, pos := "types.go:19", after := #[], guard := none }) (v := ?vq0_1) rfl (by kernel_rfl) (by kernel_rfl) (by kernel_rfl) (fun _ _ _ h => h) (Or.inl ⟨by rfl, ?hq0_1⟩) (by assumption) ?_
      case hq0_1 => intro w hSw; (try dsimp only at hSw); go_simp; try (with_reducible rfl)
      (try simp only [Act.put, qA, qB, qC])
      refine wpAnyH_take (i := 1) (oi := { dst := some 15, op := Op.load 44 (Operand.tmp 14), type := 44, pos := "types.go:19", after := #[{ on := 0, ground := Ground.data }], guard := none }) (v := ?vq1_2) rfl (by kernel_rfl) (by kernel_rfl) (by kernel_rfl) (fun _ _ _ h => h) (Or.inl ⟨by rfl, ?hq1_2⟩) (by assumption) ?_
      case hq1_2 => intro w hSw; (try dsimp only at hSw); go_simp; try (with_reducible rfl)
      (try simp only [Act.put, qA, qB, qC])
      refine wpAnyH_take (i := 2) (oi := { dst := some 16, op := Op.move (Operand.tmp 3), type := 3, pos := "types.go:19", after := #[], guard := none }) (v := ?vq2_3) rfl (by kernel_rfl) (by kernel_rfl) (by kernel_rfl) (fun _ _ _ h => h) (Or.inl ⟨by rfl, ?hq2_3⟩) (by assumption) ?_
      case hq2_3 => intro w hSw; (try dsimp only at hSw); go_simp; try (with_reducible rfl)
      (try simp only [Act.put, qA, qB, qC])
      refine wpAnyH_take (i := 3) (oi := { dst := some 17, op := Op.fieldAddr 46 (Operand.tmp 1) 2, type := 0, pos := "types.go:19", after := #[], guard := none }) (v := ?vq3_4) rfl (by kernel_rfl) (by kernel_rfl) (by kernel_rfl) (fun _ _ _ h => h) (Or.inl ⟨by rfl, ?hq3_4⟩) (by assumption) ?_
      case hq3_4 => intro w hSw; (try dsimp only at hSw); go_simp; try (with_reducible rfl)
      (try simp only [Act.put, qA, qB, qC])
      refine wpAnyH_take (i := 4) (oi := { dst := some 18, op := Op.load 44 (Operand.tmp 17), type := 44, pos := "types.go:19", after := #[{ on := 3, ground := Ground.data }], guard := none }) (v := ?vq4_5) rfl (by kernel_rfl) (by kernel_rfl) (by kernel_rfl) (fun _ _ _ h => h) (Or.inl ⟨by rfl, ?hq4_5⟩) (by assumption) ?_
      case hq4_5 => intro w hSw; (try dsimp only at hSw); go_simp; try (with_reducible rfl)
      (try simp only [Act.put, qA, qB, qC])
      refine wpAnyH_take (i := 5) (oi := { dst := some 19, op := Op.move (Operand.tmp 3), type := 3, pos := "types.go:19", after := #[], guard := none }) (v := ?vq5_6) rfl (by kernel_rfl) (by kernel_rfl) (by kernel_rfl) (fun _ _ _ h => h) (Or.inl ⟨by rfl, ?hq5_6⟩) (by assumption) ?_
      case hq5_6 => intro w hSw; (try dsimp only at hSw); go_simp; try (with_reducible rfl)
      (try simp only [Act.put, qA, qB, qC])
      refine wpAnyH_take (i := 6) (oi := { dst := some 20, op := Op.indexAddr 44 (Operand.tmp 18) (Operand.tmp 19), type := 0, pos := "types.go:19", after := #[{ on := 4, ground := Ground.data }, { on := 5, ground := Ground.data }], guard := none }) (v := ?vq6_7) rfl (by kernel_rfl) (by kernel_rfl) (by kernel_rfl) (fun _ _ _ h => h) (Or.inl ⟨by rfl, ?hq6_7⟩) (by assumption) ?_
      case hq6_7 => intro w hSw; (try dsimp only at hSw); go_simp; try (with_reducible rfl)
      (try simp only [Act.put, qA, qB, qC])
      refine wpAnyH_ready (rs := [7]) (by kernel_rfl) (by simp) ?_
      refine AllReadyH.cons (o := { dst := some 21, op := Op.load 46 (Operand.tmp 20), type := 46, pos := "types.go:19", after := #[{ on := 6, ground := Ground.data }], guard := none }) rfl (fun K hK => ?_) AllReadyH.nil
      go_simp
      refine hK.out _ _ ?_ (fun hHeld => ?_)
      · exact z2
      clear hK K z0 z1 z2 zf zl q0 q1 q2 r0
      (try simp only [Act.put, qA, qB, qC])
      refine wpAnyH_ready (rs := [8]) (by kernel_rfl) (by simp) ?_
      refine AllReadyH.cons (o := { dst := some 22, op := Op.call { callee := Callee.value (Operand.func 25), args := #[Operand.tmp 21], argTypes := #[46] }, type := 46, pos := "types.go:19", after := #[{ on := 7, ground := Ground.data }], guard := none }) rfl (fun K hK => ?_) AllReadyH.nil
      go_simp
      refine HCALL.out.mono ?_
      rintro e W3 ⟨y, rfl, hb3, he3, hy3⟩
      have HB3 := Lib.hid (show Below wr.heap.size wr W3 from (show Below wr.heap.size wr wr.drew from ⟨rfl, rfl, rfl, Nat.le_refl _, fun _ _ => rfl⟩).trans hb3)
      have HE3 := Lib.hid (And.intro he3 hy3)
      clear hb3 he3 hy3
      obtain ⟨k2, nm2, h2, l2⟩ := y
      simp only [tyV, tyC]
      have HWL := Lib.hid (show N < wr.heap.size ∧ g < wr.heap.size from ⟨blk_lt HR.out.2.2.2.1, blk_lt HZ.out.2.2⟩)
      refine hK.out _ _ ?_ (fun hHeld => ?_)
      · exact (cells3p ((HB3.out.block N HWL.out.1).trans HR.out.2.2.2.1)).2.2.1
      clear hK K
      (try simp only [Act.put, qA, qB, qC])
      refine wpAnyH_take (i := 9) (oi := { dst := some 23, op := Op.indexAddr 44 (Operand.tmp 15) (Operand.tmp 16), type := 0, pos := "types.go:19", after := #[{ on := 1, ground := Ground.data }, { on := 2, ground := Ground.data }, { on := 0, ground := Ground.phase }, { on := 1, ground := Ground.phase }, { on := 2, ground := Ground.phase }, { on := 3, ground := Ground.phase }, { on := 4, ground := Ground.phase }, { on := 5, ground := Ground.phase }, { on := 6, ground := Ground.phase }, { on := 7, ground := Ground.phase }, { on := 8, ground := Ground.phase }], guard := none }) (v := ?vq9_8) rfl (by kernel_rfl) (by kernel_rfl) (by kernel_rfl) (fun _ _ _ h => h) (Or.inl ⟨by rfl, ?hq9_8⟩) (by assumption) ?_
      case hq9_8 => intro w hSw; (try dsimp only at hSw); go_simp; try (with_reducible rfl)
      (try simp only [Act.put, qA, qB, qC])
      refine wpAnyH_ready (rs := [10]) (by kernel_rfl) (by simp) ?_
      refine AllReadyH.cons (o := { dst := none, op := Op.store 46 (Operand.tmp 23) (Operand.tmp 22), type := 0, pos := "types.go:19", after := #[{ on := 9, ground := Ground.data }, { on := 8, ground := Ground.data }, { on := 8, ground := Ground.chain }, { on := 0, ground := Ground.phase }, { on := 1, ground := Ground.phase }, { on := 2, ground := Ground.phase }, { on := 3, ground := Ground.phase }, { on := 4, ground := Ground.phase }, { on := 5, ground := Ground.phase }, { on := 6, ground := Ground.phase }, { on := 7, ground := Ground.phase }, { on := 8, ground := Ground.phase }], guard := none }) rfl (fun K hK => ?_) AllReadyH.nil
      rw [if_pos (by rfl)]
      refine wp_store_box 46 (.tmp 23) (.tmp 22) rfl g (j * 3) (by first | rfl | (simp [Act.eval])) (.agg #[.int .i64 k2, .string nm2, .slice h2.oa l2.length h2.cap]) rfl [.int .i64 k2, .string nm2, .slice h2.oa l2.length h2.cap] rfl (((ys ++ Ty5.mk k1 nm1 h1 l1 :: l.drop (j + 1)).flatMap tyC) ++ ex) 46 ((HB3.out.block g HWL.out.2).trans HZ.out.2.2) ?hlen (show (Tryz.prog.info? 46).map (·.size) = some 3 by kernel_rfl) ?cx1 w.heap.size (by have := HGL.out.1; have := HB0.out.size; omega) w (HR.out.2.2.2.2.2.2.1.trans (HB3.out.mono HR.out.2.2.2.2.2.2.1.size)) ?_
      case hlen => rw [List.length_append, flat_len tyC_len3, List.length_append, List.length_cons, HR.out.1]; simp; omega
      try case cx1 => first | exact ⟨rfl, rfl, rfl⟩ | (intro v hv; simp at hv; rcases hv with rfl | rfl | rfl <;> rfl)
      intro W4 hb4 hbx hoth
      have e1 := splL_flat tyC_len3 ys (l.drop (j + 1)) (Ty5.mk k1 nm1 h1 l1) (Ty5.mk k2 nm2 h2 l2) ex
      rw [HR.out.1] at e1
      rw [show [Value.int .i64 k2, .string nm2, .slice h2.oa l2.length h2.cap] = tyC (.mk k2 nm2 h2 l2) from rfl, e1] at hbx
      have hs4 : W3.heap.size ≤ W4.heap.size := by
        rcases Nat.lt_or_ge W4.heap.size W3.heap.size with h | h
        · have h5 := hoth W4.heap.size (fun e => by have := blk_lt hbx; omega)
          rw [Array.getElem?_eq_none (Nat.le_refl _)] at h5
          have : W3.heap[W4.heap.size]? ≠ none := by simp; omega
          exact absurd h5.symm this
        · exact h
      have HF := Lib.hid (And.intro hb4 (And.intro hbx (And.intro hoth hs4)))
      clear hb4 hbx hoth e1 hs4
      have hgN : g ≠ N ∧ g ≠ N + 1 := by have := HGL.out.1; have := HNL.out; omega
      have HGN := Lib.hid hgN
      clear hgN
      refine hK.out _ _ ?_ (fun hHeld => ?_)
      · exact (cells3p ((HF.out.2.2.1 N HGN.out.1.symm).trans ((HB3.out.block N HWL.out.1).trans HR.out.2.2.2.1))).2.2.1
      clear hK K
      (try simp only [Act.put, qA, qB, qC])
      refine wpAnyH_done (by kernel_rfl) ?_ _
      go_wp2
      go_roundw
      case rel =>
        have hr := HR.out
        have hu1 : Und (eb wr W1.heap.size none) (eb W4 W1.heap.size none) := eb_und (Nat.le_trans HB3.out.size HF.out.2.2.2) fun b hb h1 h2 => ⟨h1, h2, (HF.out.2.2.1 b (by have := HGL.out.2; omega)).trans (HB3.out.block b hb)⟩
        have hu2 : Und (eb W3 wr.drew.heap.size none) (eb W4 W1.heap.size none) := eb_und HF.out.2.2.2 fun b hb h1 h2 => ⟨Nat.le_trans hr.2.2.2.2.2.2.2 h1, h2, HF.out.2.2.1 b (by have := HWL.out.2; have h3 : wr.heap.size ≤ b := h1; omega)⟩
        refine ⟨j + 1, ys ++ [.mk k2 nm2 h2 l2], by omega, by go_num, by simp [hr.1], ?_, fun z hz => ?_, ?_, ?_, fun _ => ?_, HF.out.1, ?_⟩
        · rw [List.map_append, hr.2.1, List.take_add_one, HZ.out.1, List.map_append]
          simp [HE3.out.1]
        · rcases List.mem_append.1 hz with hz | hz
          · exact TyH.und n _ _ z hu1 (hr.2.2.1 z hz)
          · obtain rfl : z = .mk k2 nm2 h2 l2 := by simpa using hz
            exact TyH.und n _ _ _ hu2 HE3.out.2
        · exact (HF.out.2.2.1 N HGN.out.1.symm).trans ((HB3.out.block N HWL.out.1).trans hr.2.2.2.1)
        · exact (HF.out.2.2.1 (N + 1) HGN.out.2.symm).trans ((HB3.out.block (N + 1) (blk_lt hr.2.2.2.2.1)).trans hr.2.2.2.2.1)
        · rw [List.append_assoc]
          exact HF.out.2.1
        · exact Nat.le_trans hr.2.2.2.2.2.2.2 (Nat.le_trans HB3.out.size HF.out.2.2.2)
      case measure => simp [intOf]; omega
    · have t1 : decide ((j : Int) < m) = false := by simp; omega
      obtain rfl : j = m := by omega
      go_wp2_with (refine wpList_store_box rfl 46 (.tmp 2) (.tmp 25) rfl (N + 1) 0 rfl (.agg #[.int .i64 k, .string nm, .slice oa j c]) rfl [.int .i64 k, .string nm, .slice oa j c] rfl [.int .i64 0, .string ⟨#[]⟩, .slice none 0 0] 46 HR.out.2.2.2.2.1 (Nat.le_refl _) (show (Tryz.prog.info? 46).map (·.size) = some 3 by kernel_rfl) ?cx2 (N + 1) (Nat.le_refl _) wr (Below.refl _ _) ?_)
      try case cx2 => first | exact ⟨rfl, rfl, rfl⟩ | (intro v hv; simp at hv; rcases hv with rfl | rfl | rfl <;> rfl)
      intro WF hb hbx hoth
      have HF := Lib.hid (And.intro hb (And.intro hbx hoth))
      obtain ⟨f0, f1, f2, ff, fl⟩ := cells3p hbx
      clear hb hoth hbx z0 z1 z2 zf zl r0
      go_wp2
      refine bodyPost_ret (v := .agg #[.int .i64 k, .string nm, .slice oa j c]) (by simp [results, Tryz.results25, go_sem, f0, f1, f2]) rfl ?_
      have hr := HR.out
      have hB : Below w.heap.size w WF := hr.2.2.2.2.2.2.1.trans (HF.out.1.mono (by have := HN.out; omega))
      have hsz := HF.out.1.size
      have hu : Und (eb wr W1.heap.size none) (eb WF w.heap.size none) := eb_und hsz fun b hb h1 h2 => ⟨by have := HB0.out.size; have := HB1.out.size; omega, h2, HF.out.2.2 b (by have := HNL.out; have := HB1.out.size; omega)⟩
      refine ⟨.mk k nm ⟨oa, c⟩ ys, by simp [tyV, tyC, hr.1], hB, ?_, HK.out, by rw [hr.1]; exact HC.out.1, HC.out.2.1, fun h0 => ?_, fun z hz => TyH.und n _ _ z hu (hr.2.2.1 z hz)⟩
      · have h1 := hr.2.1
        rw [← HM.out, List.take_length] at h1
        rw [erTy, erTy, erTys_eq, erTys_eq, h1]
      · rw [hr.1] at h0
        obtain ⟨g1, g2, g3, -⟩ := HG.out h0
        have hgb : WF.heap[g]? = some (.cells (ys.flatMap tyC ++ ex).toArray 46) := by
          have := hr.2.2.2.2.2.1 h0
          rw [← HM.out, List.drop_length, List.append_nil] at this
          exact (HF.out.2.2 g (by have := HNL.out; omega)).trans this
        refine ⟨g, 0, g1, by rw [eb_size]; exact blk_lt hgb, fun i z hz jj v hv => ?_⟩
        refine eb_cell_mk (by have := HB0.out.size; show _ ≤ g; omega) (by simp) ?_
        have hj3 : jj < 3 := by rw [← tyC_len3 z]; exact (List.getElem?_eq_some_iff.1 hv).1
        have hfl := flat_get tyC 3 tyC_len3 ys i jj z hz hj3
        rw [hv] at hfl
        rw [Nat.zero_add]
        exact block_cell hgb (by rw [List.getElem?_append_left (List.getElem?_eq_some_iff.1 hfl).1]; exact hfl)
theorem copied_any : ∀ (n : Nat) (x : Ty5) (w : World), TyH n w x → tyN x ≤ 1000000 → Calls Tryz.prog 25 #[tyV x] w fun e w' => ∃ y, e = .returned (tyV y) ∧ Below w.heap.size w w' ∧ erTy y = erTy x ∧ TyH n (eb w' w.heap.size none) y
  | 0, _, _, h, _ => h.elim
  | n + 1, x, w, hx, hn => copied_step n (copied_any n) x w hx hn

end Go.Proofs.YtghkbihgdabamaaGreatDoor

namespace Go.Proofs.YtghkbihgdabamaaGreatDoor
open Go.RowKit

def aroundB (k : Int) : Bool := k == 4 || (k == 5 || k == 6)
set_option maxRecDepth 100000 in
theorem around_any (k : Int) (w : World) : Calls Tryz.prog 138 #[.int .i64 k] w fun e w' => e = .returned (.bool (aroundB k)) ∧ w' = w := by
  unfold aroundB
  cases e4 : (k == 4) with
  | true =>
    go_enter Tryz.func138, Tryz.ntmps138
    go_wp2
    go_ret
    exact ⟨rfl, rfl⟩
  | false =>
    cases e5 : (k == 5) with
    | true =>
      go_enter Tryz.func138, Tryz.ntmps138
      go_wp2
      go_ret
      exact ⟨rfl, rfl⟩
    | false =>
      cases e6 : (k == 6) with
      | true =>
        go_enter Tryz.func138, Tryz.ntmps138
        go_wp2
        go_ret
        exact ⟨rfl, rfl⟩
      | false =>
        go_enter Tryz.func138, Tryz.ntmps138
        go_wp2
        go_ret
        exact ⟨rfl, rfl⟩
def oneT : List Ty5 → Option Ty5
  | [x] => some x
  | _ => none
theorem oneT_some {l : List Ty5} {x : Ty5} (h : oneT l = some x) : l = [x] := by
  match l, h with
  | [y], h => simpa [oneT] using h
/-- what is wrong, and the type -/
def resO (s : So5) : Nat → Ty5 → Int × Ty5
  | 0, _ => (80, ty0)
  | n + 1, .mk k nm h l => if aroundB k then (match oneT l with
      | some x => ((resO s n x).1, .mk k nm h0 [(resO s n x).2])
      | none => (80, ty0))
    else ((innerO s (.mk k nm h l)).2, .mk (innerO s (.mk k nm h l)).1 nm h0 (erTys l))
theorem resO_one {s : So5} {n : Nat} {k : Int} {nm : ByteArray} {h : Hd} {x : Ty5} (ha : aroundB k = true) : resO s (n + 1) (.mk k nm h [x]) = ((resO s n x).1, .mk k nm h0 [(resO s n x).2]) := by rw [resO, if_pos ha]; rfl
theorem resO_bad {s : So5} {n : Nat} {k : Int} {nm : ByteArray} {h : Hd} {l : List Ty5} (ha : aroundB k = true) (hl : l.length ≠ 1) : (resO s (n + 1) (.mk k nm h l)).1 = 80 := by
  rw [resO, if_pos ha]
  cases ho : oneT l with
  | none => rfl
  | some x => exact absurd (by rw [oneT_some ho]; rfl) hl
theorem resO_in {s : So5} {n : Nat} {k : Int} {nm : ByteArray} {h : Hd} {l : List Ty5} (ha : aroundB k = false) : resO s (n + 1) (.mk k nm h l) = ((innerO s (.mk k nm h l)).2, .mk (innerO s (.mk k nm h l)).1 nm h0 (erTys l)) := by rw [resO, if_neg (by simp [ha])]
def wrapT : List (Int × ByteArray) → Ty5 → Ty5
  | [], t => t
  | (k, nm) :: ks, t => .mk k nm h0 [wrapT ks t]
theorem wrapT_snoc : ∀ (ks : List (Int × ByteArray)) (k : Int) (nm : ByteArray) (t : Ty5), wrapT (ks ++ [(k, nm)]) t = wrapT ks (.mk k nm h0 [t])
  | [], _, _, _ => rfl
  | (k', nm') :: ks, k, nm, t => by rw [List.cons_append, wrapT, wrapT, wrapT_snoc ks]
/-- a chain of types, each the one of a list of one: from a block to a block -/
inductive Ch (w : World) (L : Nat) : Nat → Nat → List (Int × ByteArray) → Prop
  | nil (b : Nat) : Ch w L b b []
  | cons {b0 b1 b : Nat} {k : Int} {nm : ByteArray} {c : Nat} {ex : List Value} {ks : List (Int × ByteArray)} (h : w.heap[b0]? = some (.cells (tyC (.mk k nm ⟨some ⟨b1, 0, none⟩, c⟩ [ty0]) ++ ex).toArray 46)) (hk : I64 k) (hc : 1 ≤ c ∧ c ≤ maxLen) (hlt : b0 < b1 ∧ L ≤ b1) (hr : Ch w L b1 b ks) : Ch w L b0 b ((k, nm) :: ks)
theorem Ch.le {w : World} {L b0 b : Nat} {ks : List (Int × ByteArray)} (h : Ch w L b0 b ks) : b0 ≤ b := by
  induction h with
  | nil => exact Nat.le_refl _
  | cons _ _ _ hlt _ ih => omega
theorem Ch.keep {w w' : World} {L b0 b : Nat} {ks : List (Int × ByteArray)} (h : Ch w L b0 b ks) (hk : ∀ x, b0 ≤ x → x < b → w'.heap[x]? = w.heap[x]?) : Ch w' L b0 b ks := by
  induction h with
  | nil => exact .nil _
  | cons h1 h2 h3 h4 h5 ih =>
    have := h5.le
    exact .cons ((hk _ (Nat.le_refl _) (by omega)).trans h1) h2 h3 h4 (ih fun x hx hl => hk x (by omega) hl)
theorem Ch.snoc {w : World} {L b0 b b1 : Nat} {ks : List (Int × ByteArray)} (h : Ch w L b0 b ks) {k : Int} {nm : ByteArray} {c : Nat} {ex : List Value} (hb : w.heap[b]? = some (.cells (tyC (.mk k nm ⟨some ⟨b1, 0, none⟩, c⟩ [ty0]) ++ ex).toArray 46)) (hk : I64 k) (hc : 1 ≤ c ∧ c ≤ maxLen) (hlt : b < b1 ∧ L ≤ b1) : Ch w L b0 b1 (ks ++ [(k, nm)]) := by
  induction h with
  | nil => exact .cons hb hk hc hlt (.nil _)
  | cons h1 h2 h3 h4 h5 ih => exact .cons h1 h2 h3 h4 (ih hb hlt)
/-- what stands at its end stands in it -/
theorem Ch.ty {w : World} {L B b0 b : Nat} {og : Option Nat} {ks : List (Int × ByteArray)} (h : Ch w L b0 b ks) (hB : B ≤ b0) (hog : ∀ x, L ≤ x → og ≠ some x) {y : Ty5} {ex : List Value} {j : Nat} (hb : w.heap[b]? = some (.cells (tyC y ++ ex).toArray 46)) (hy : TyH j (eb w B og) y) :
    ∃ Y ex0, w.heap[b0]? = some (.cells (tyC Y ++ ex0).toArray 46) ∧ TyH (j + ks.length) (eb w B og) Y ∧ erTy Y = wrapT ks (erTy y) := by
  induction h with
  | nil => exact ⟨y, ex, hb, hy, rfl⟩
  | @cons b0 b1 b k nm c ex1 ks h1 h2 h3 h4 h5 ih =>
    obtain ⟨Y, ex0, g1, g2, g3⟩ := ih (by omega) hb
    refine ⟨.mk k nm ⟨some ⟨b1, 0, none⟩, c⟩ [Y], ex1, h1, ⟨h2, h3.1, h3.2, fun _ => ⟨b1, 0, rfl, by rw [eb_size]; exact (Array.getElem?_eq_some_iff.1 g1).1, fun i x hx jj v hv => ?_⟩, fun x hx => ?_⟩, ?_⟩
    · have hi : i = 0 := by have := (List.getElem?_eq_some_iff.1 hx).1; simp at this; omega
      subst hi
      obtain rfl : Y = x := by simpa using hx
      refine eb_cell_mk (by show B ≤ b1; omega) (hog _ h4.2) ?_
      rw [Nat.zero_mul, Nat.add_zero]
      rw [Nat.zero_add]
      exact block_cell g1 (by rw [List.getElem?_append_left (List.getElem?_eq_some_iff.1 hv).1]; exact hv)
    · obtain rfl : x = Y := by simpa using hx
      exact g2
    · rw [erTy, erTys, erTys, g3, wrapT]
theorem cells_ty {w : World} {b : Nat} {k : Int} {nm : ByteArray} {h : Hd} {l : List Ty5} {ex : List Value} {T : TypeId} (hb : w.heap[b]? = some (.cells (tyC (.mk k nm h l) ++ ex).toArray T)) :
    w.cell? ⟨b, 0, none⟩ = some (.int .i64 k) ∧ w.cell? ⟨b, 1, none⟩ = some (.string nm) ∧ w.cell? ⟨b, 2, none⟩ = some (.slice h.oa l.length h.cap) ∧ (∀ j, w.frozen? ⟨b, j, none⟩ = false) ∧ b < w.heap.size :=
  ⟨block_cell hb rfl, block_cell hb rfl, block_cell hb rfl, fun j => by simp [World.frozen?, hb], (Array.getElem?_eq_some_iff.1 hb).1⟩

end Go.Proofs.YtghkbihgdabamaaGreatDoor
