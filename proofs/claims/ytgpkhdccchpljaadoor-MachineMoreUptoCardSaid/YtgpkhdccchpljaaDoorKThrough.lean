/-
  through of package machine. Conditions: the session lies in the heap; the instruction is one that may be run.
-/
import Derived.Test.YtgpkhdccchpljaaDoorKJStepped
import Derived.Deep.LoopGhost
import Derived.Deep.CutBlock
namespace Go.Proofs.YtgpkhdccchpljaaDoor
open Go.RowKit
open M (Wd MS RepAt Owned Kept Turned loadR storeR copyR clearR freeR allocR)
open C (In)

set_option maxRecDepth 100000 in
set_option maxHeartbeats 8000000 in
theorem through_any {w0 w : World} {L : Ly} {c : Cx} {s : Se} (H : SesAt w0 w L c s) (o0 : Out) (I : Out × Se → Prop) (mu : Out × Se → Nat) (hI : I (o0, s))
    (hst : ∀ (w' : World) (L' : Ly) (n : Int) (s' : Se), I (⟨-1, n⟩, s') → SesAt w0 w' L' c s' → Calls Tryd.prog 40 #[.pointer (some ⟨L'.sk, 0, none⟩)] w' fun e w'' => e = .returned (outV (stepR c s').1) ∧ Turns w0 w' w'' L' c s' (stepR c s').2)
    (hse : ∀ (w' : World) (L' : Ly) (o : Out) (s' : Se), I (o, s') → o.k ≠ -1 → o.k ≠ 4 → o.k ≠ 5 → o.k ≠ 6 → s'.rs ≠ [] → SesAt w0 w' L' c s' → Calls Tryd.prog 41 #[.pointer (some ⟨L'.sk, 0, none⟩), .agg #[.int .i64 o.k, .int .i64 o.n]] w' fun e w'' => e = .returned (outV (settleR c o s').1) ∧ Turns w0 w' w'' L' c s' (settleR c o s').2)
    (hnx : ∀ q q', I q → thr1 c q = some q' → I q' ∧ mu q' < mu q) :
    Calls Tryd.prog 25 #[.pointer (some ⟨L.sk, 0, none⟩), .agg #[.int .i64 o0.k, .int .i64 o0.n]] w fun e w' => ∃ z, Thr c (o0, s) z ∧ I z ∧ e = .returned (outV z.1) ∧ Turns w0 w w' L c s z.2 := by
  obtain ⟨W, hW⟩ : ∃ W, W = (w.alloc (.cells #[.int .i64 o0.k, .int .i64 o0.n] 41)).alloc (.cells #[.int .i64 0, .int .i64 0] 41) := ⟨_, rfl⟩
  obtain ⟨hbW, hx0, hx1⟩ := al2 w (.cells #[.int .i64 o0.k, .int .i64 o0.n] 41) (.cells #[.int .i64 0, .int .i64 0] 41)
  rw [← hW] at hbW hx0 hx1
  have hw00 := H.below.size
  obtain ⟨B, hB⟩ : ∃ B, B = w.heap.size := ⟨_, rfl⟩
  have hBw : w.heap.size ≤ B := Nat.le_of_eq hB.symm
  rw [← hB] at hx0 hx1
  have hT0 := Lib.hid (Turns.same H hbW)
  have hX0 := Lib.hid hx0
  have hX1 := Lib.hid hx1
  go_enter Tryd.func25, Tryd.ntmps25
  go_upto_block 0 with fail
  rw [← hW]
  simp only [← hB]
  clear hW hx0 hx1 hbW
  replace hB := Lib.hid hB
  go_wp2_with fail
  go_loopg [] (mu (o0, s)) (fun g wr => ∃ q : Out × Se, mu q ≤ g ∧ I q ∧ (∀ z, Thr c q z → Thr c (o0, s) z) ∧ Turns w0 w wr L c s q.2 ∧ wr.heap[B]? = some (.cells #[.int .i64 q.1.k, .int .i64 q.1.n] 41) ∧ wr.heap[B + 1]? = some (.cells #[.int .i64 0, .int .i64 0] 41))
  case atStart => exact ⟨(o0, s), Nat.le_refl _, hI, fun _ h => h, hT0.out, hX0.out, hX1.out⟩
  case round =>
    clear hT0 hX0 hX1
    obtain ⟨⟨⟨k, n⟩, s'⟩, hmu, hi, hback, hT, h0, h1⟩ := hrel
    have HT := Lib.hid hT
    have H0 := Lib.hid h0
    have H1X := Lib.hid h1
    have HBK := Lib.hid hback
    have HMU := Lib.hid (And.intro hmu hi)
    obtain ⟨L1, f1, f2, f3, f4, H1, o1, k1⟩ := hT
    have HS1 := Lib.hid H1
    have HAF := Lib.hid (And.intro f1 (And.intro f2 (And.intro f3 (And.intro f4 (And.intro o1 k1)))))
    obtain ⟨x0, x1, xf, xl⟩ := cells2 h0
    obtain ⟨r0, r1, rf, rl⟩ := cells2 h1
    clear hmu hback h0 h1
    by_cases hk : k = -1
    · subst hk
      obtain ⟨k2, n2, s2, hs2⟩ : ∃ k2 n2 s2, stepR c s' = (⟨k2, n2⟩, s2) := ⟨_, _, _, rfl⟩
      have hcl := hst wr L1 n s' hi H1
      rw [hs2, f2, show outV ⟨k2, n2⟩ = .agg #[.int .i64 k2, .int .i64 n2] from rfl] at hcl
      replace hcl := Lib.hid hcl
      have hth : thr1 c (⟨-1, n⟩, s') = some (⟨k2, n2⟩, s2) := by rw [thr1, if_pos rfl, hs2]
      have HN := Lib.hid (And.intro hth (hnx _ _ hi hth))
      clear H1 o1 k1 f1 f2 f3 f4 hs2 hth hi
      go_wp2_with (go_at_call 40; refine hcl.out.mono ?_; rintro e WW ⟨rfl, hT7⟩; have hrr := hT7.local HS1.out (t := 41) (by unfold Loc; decide) H0.out; have hr1 := hT7.local HS1.out (t := 41) (by unfold Loc; decide) H1X.out; have hTW := Turns.after HAF.out.1 HAF.out.2.1 HAF.out.2.2.1 HAF.out.2.2.2.1 HAF.out.2.2.2.2.1 HAF.out.2.2.2.2.2 hT7; obtain ⟨hfz', hfin'⟩ := Turns.out hTW hw00 hBw hrr (.int .i64 k2) (.int .i64 n2); have hfz := Lib.hid hfz'; have hfin := Lib.hid hfin'; have hr1' : Hid (((WW.setCell ⟨B, 0, none⟩ (.int .i64 k2)).setCell ⟨B, 1, none⟩ (.int .i64 n2)).heap[B + 1]? = some (.cells #[.int .i64 0, .int .i64 0] 41)) := Lib.hid ((Below.heap_setCell _ _ _ _ (Nat.succ_ne_self B)).trans ((Below.heap_setCell _ _ _ _ (Nat.succ_ne_self B)).trans hr1)); obtain ⟨r0, r1, rf, rl⟩ := cells2 hrr; clear hfz' hfin' hrr hTW hT7 hr1)
      go_roundg (gk - 1)
      case measure =>
        have h1 := HMU.out.1
        have h2 := HN.out.2.2
        omega
      case rel =>
        refine ⟨(⟨k2, n2⟩, s2), ?_, HN.out.2.1, fun z hz => HBK.out z (Thr.next HN.out.1 hz), hfin.out, hfz.out, hr1'.out⟩
        have h1 := HMU.out.1
        have h2 := HN.out.2.2
        omega
    · have tk : (k == -1) = false := by simpa using hk
      by_cases hk4 : k = 4 ∨ k = 5 ∨ k = 6
      · have hz : Hid (Thr c (o0, s) (⟨k, n⟩, s')) := Lib.hid (HBK.out _ (Thr.done (by rw [thr1, if_neg hk, if_pos hk4])))
        have HI := Lib.hid hi
        obtain ⟨hfz', hfin'⟩ := Turns.out HT.out hw00 (show w.heap.size ≤ B + 1 by omega) H1X.out (.int .i64 k) (.int .i64 n)
        have hfz := Lib.hid hfz'
        have hfin := Lib.hid hfin'
        clear hfz' hfin' hi hk H1 o1 k1 f1 f2 f3 f4
        rcases hk4 with rfl | rfl | rfl
        all_goals
          clear tk
          go_wp2
          have hf := hfz.out
          clear hfz
          generalize (World.setCell (World.setCell wr _ _) _ _) = WF at hf hfin ⊢
          obtain ⟨q0, q1, qf, ql⟩ := cells2 hf
          exact bodyPost_ret (v := outV ⟨_, n⟩) (by simp [results, Tryd.results25, go_sem, q0, q1, outV]) rfl ⟨_, _, hz.out, HI.out, rfl, hfin.out⟩
      · have hk4' : k ≠ 4 ∧ k ≠ 5 ∧ k ≠ 6 := ⟨fun h => hk4 (.inl h), fun h => hk4 (.inr (.inl h)), fun h => hk4 (.inr (.inr h))⟩
        have t4 : (k == 4) = false := by simpa using hk4'.1
        have t5 : (k == 5) = false := by simpa using hk4'.2.1
        have t6 : (k == 6) = false := by simpa using hk4'.2.2
        have hses := H1.ses
        rw [sesC] at hses
        cases hrs : s'.rs with
        | nil =>
          rw [H1.rb_nil hrs] at hses
          obtain ⟨z0, z1, z2, z3, zf, zl⟩ := cells4m hses
          rw [f2] at z0 z1 z2 z3 zl
          simp only [f2] at zf
          rw [show upV [] = .pointer none from rfl] at z3
          have hz : Hid (Thr c (o0, s) (⟨k, n⟩, s')) := Lib.hid (HBK.out _ (Thr.done (by rw [thr1, if_neg hk, if_neg hk4, if_pos hrs])))
          have HI := Lib.hid hi
          obtain ⟨hfz', hfin'⟩ := Turns.out HT.out hw00 (show w.heap.size ≤ B + 1 by omega) H1X.out (.int .i64 k) (.int .i64 n)
          have hfz := Lib.hid hfz'
          have hfin := Lib.hid hfin'
          clear hfz' hfin' hi hk hk4 hk4' H1 o1 k1 f1 f2 f3 f4 hses hrs
          go_wp2
          have hf := hfz.out
          clear hfz
          generalize (World.setCell (World.setCell wr _ _) _ _) = WF at hf hfin ⊢
          obtain ⟨q0, q1, qf, ql⟩ := cells2 hf
          exact bodyPost_ret (v := outV ⟨k, n⟩) (by simp [results, Tryd.results25, go_sem, q0, q1, outV]) rfl ⟨_, _, hz.out, HI.out, rfl, hfin.out⟩
        | cons r rs =>
          obtain ⟨b, bs, hrb⟩ := H1.rb_cons hrs
          obtain ⟨z0, z1, z2, z3, zf, zl⟩ := H1.ses4 hrb
          rw [f2] at z0 z1 z2 z3 zl
          simp only [f2] at zf
          obtain ⟨k2, n2, s2, hs2⟩ : ∃ k2 n2 s2, settleR c ⟨k, n⟩ s' = (⟨k2, n2⟩, s2) := ⟨_, _, _, rfl⟩
          have hcl := hse wr L1 ⟨k, n⟩ s' hi hk hk4'.1 hk4'.2.1 hk4'.2.2 (by rw [hrs]; simp) H1
          rw [hs2, f2, show outV ⟨k2, n2⟩ = .agg #[.int .i64 k2, .int .i64 n2] from rfl] at hcl
          replace hcl := Lib.hid hcl
          have hth : thr1 c (⟨k, n⟩, s') = some (⟨k2, n2⟩, s2) := by rw [thr1, if_neg hk, if_neg hk4, if_neg (by rw [hrs]; simp), hs2]
          have HN := Lib.hid (And.intro hth (hnx _ _ hi hth))
          clear H1 o1 k1 f1 f2 f3 f4 hs2 hth hi hk hk4 hk4' hses hrs hrb
          go_wp2_with (go_at_call 41; refine hcl.out.mono ?_; rintro e WW ⟨rfl, hT7⟩; have hrr := hT7.local HS1.out (t := 41) (by unfold Loc; decide) H0.out; have hr1 := hT7.local HS1.out (t := 41) (by unfold Loc; decide) H1X.out; have hTW := Turns.after HAF.out.1 HAF.out.2.1 HAF.out.2.2.1 HAF.out.2.2.2.1 HAF.out.2.2.2.2.1 HAF.out.2.2.2.2.2 hT7; obtain ⟨hfz', hfin'⟩ := Turns.out hTW hw00 hBw hrr (.int .i64 k2) (.int .i64 n2); have hfz := Lib.hid hfz'; have hfin := Lib.hid hfin'; have hr1' : Hid (((WW.setCell ⟨B, 0, none⟩ (.int .i64 k2)).setCell ⟨B, 1, none⟩ (.int .i64 n2)).heap[B + 1]? = some (.cells #[.int .i64 0, .int .i64 0] 41)) := Lib.hid ((Below.heap_setCell _ _ _ _ (Nat.succ_ne_self B)).trans ((Below.heap_setCell _ _ _ _ (Nat.succ_ne_self B)).trans hr1)); obtain ⟨r0, r1, rf, rl⟩ := cells2 hrr; clear hfz' hfin' hrr hTW hT7 hr1)
          go_roundg (gk - 1)
          case measure =>
            have h1 := HMU.out.1
            have h2 := HN.out.2.2
            omega
          case rel =>
            refine ⟨(⟨k2, n2⟩, s2), ?_, HN.out.2.1, fun z hz => HBK.out z (Thr.next HN.out.1 hz), hfin.out, hfz.out, hr1'.out⟩
            have h1 := HMU.out.1
            have h2 := HN.out.2.2
            omega
end Go.Proofs.YtgpkhdccchpljaaDoor
