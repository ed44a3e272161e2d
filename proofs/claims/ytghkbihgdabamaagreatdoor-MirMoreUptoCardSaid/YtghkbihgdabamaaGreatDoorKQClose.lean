/-
  Several texts of the proof in one: QMoW, QClose. No conditions of their own: each lemma states its own.
-/
import Derived.Test.YtghkbihgdabamaaGreatDoorKQMoH
import Derived.Test.YtghkbihgdabamaaGreatDoorKQUsP
import Derived.Test.YtghkbihgdabamaaGreatDoorKQOver
import Derived.Test.YtghkbihgdabamaaGreatDoorKQWorks
import Derived.Deep.RegionHeld3
import Derived.Deep.DeepCutAuto
import Derived.Deep.AppendLies
import Derived.Test.YtghkbihgdabamaaGreatDoorKPModel
import Derived.Test.YtghkbihgdabamaaGreatDoorRows
import Derived.Test.YtghkbihgdabamaaGreatDoorChecked
import Derived.WalkKit
import Derived.ProofKit
import Derived.OpenShut
import Derived.Lib.SmallJoins
import Derived.LaidMore
import Derived.Stop.Joined
import Derived.Stop.LaidErr
import Derived.LaidHandle
namespace Go.Proofs.YtghkbihgdabamaaGreatDoor
open Go.RowKit

theorem info_bo : (Tryz.prog.info? 30).map (·.size) = some 4 := by kernel_rfl
theorem info_bl : (Tryz.prog.info? 60).map (·.size) = some 17 := by kernel_rfl
set_option maxRecDepth 100000 in
set_option maxHeartbeats 40000000 in
theorem mirMore_walk (d : Nat) (s : So5) (b : Bo) (z1 z2 : Int) (w : World) (hs : SoH d w s) (hsn : SoN s) (hb : BoH d w b) (hbn : BoN b) (hbl : b.blocks.length ≤ 1048576) (hin : ∀ x ∈ b.blocks, x.ins.length ≤ 1048576) (hz1 : I64 z1) (hz2 : I64 z2) :
    Calls Tryz.prog 5 #[soV s, boV b, .int .i64 z1, .int .i64 z2] w fun e w' => e = .returned (.bool true) ∧ Below w.heap.size w w' := by
  have hbv : boV b = .agg #[.string b.nm, .int .i64 b.params, .slice b.hl.oa b.locals.length b.hl.cap, .slice b.hb.oa b.blocks.length b.hb.cap] := by cases b; rfl
  have hlg := fun W (h : Below w.heap.size w W) => large_any d s 250 W (SoH.below hs h)
  have hov := fun W (h : Below w.heap.size w W) => over_any d b 250 W (BoH.below hb h)
  have hva := fun W (h : Below w.heap.size w W) => valid_any d s b W (SoH.below hs h) hsn (BoH.below hb h) hbn
  have hvc := fun (v : Value) (l : List Bl) (M : Nat) (w0 W : World) (h : Below w.heap.size w W) (hc : CG M w0 W b v l) (hw0 : Below w.heap.size w w0) (hM : M ≤ w0.heap.size) (hM2 : w0.heap.size ≤ M) (hl : ∀ x ∈ l, BlH W x) (hv : ∀ k, validB s d (boB b k l) = true) => (show Calls Tryz.prog 16 #[soV s, .agg #[.string b.nm, .int .i64 b.params, .slice b.hl.oa b.locals.length b.hl.cap, v]] W (fun e w' => e = .returned (.bool true) ∧ Below W.heap.size W w') from by
    obtain ⟨k, rfl, hk⟩ := hc.bo hM hM2 (BoH.below hb hw0) hl
    have := valid_any d s (boB b k l) W (SoH.below hs h) hsn hk (show BoN (boB b k l) from hbn)
    rw [hv k] at this
    exact this)
  have hbls := fun W (h : Below w.heap.size w W) => (BoH.below hb h).2.2
  obtain ⟨VB, hVB⟩ : ∃ B, validB s d b = B := ⟨_, rfl⟩
  obtain ⟨nb, hnb⟩ : ∃ k, b.blocks.length = k := ⟨_, rfl⟩
  obtain ⟨nl, hnl⟩ : ∃ k, b.locals.length = k := ⟨_, rfl⟩
  obtain ⟨oB, hoB⟩ : ∃ k, b.hb.oa = k := ⟨_, rfl⟩
  simp only [hVB] at hva
  rw [soV_hd] at hlg hva hvc ⊢
  rw [hbv] at hov hva ⊢
  simp only [hnb, hnl, hoB] at hov hva hvc hbl ⊢
  have HLG := Lib.hid hlg
  have HOV := Lib.hid hov
  have HVA := Lib.hid hva
  have HVC := Lib.hid hvc
  have HRW := Lib.hid hbls
  have HBR := Lib.hid (show ∀ W, Below w.heap.size w W → ∀ x ∈ b.blocks ++ [retBl], BlH W x from fun W h x hx => by
    rcases List.mem_append.1 hx with hx | hx
    · exact (hbls W h).2.2.2 x hx
    · obtain rfl := List.mem_singleton.1 hx
      exact retBl_H W)
  have HNB := Lib.hid hnb
  have HNL := Lib.hid hnl
  have HOB := Lib.hid hoB
  have HVB := Lib.hid hVB
  have HBL := Lib.hid hbl
  have HIN := Lib.hid hin
  have HZ1 := Lib.hid hz1
  have HZ2 := Lib.hid hz2
  obtain ⟨W0, hW⟩ : ∃ W, W = (w.alloc (.cells #[.slice s.hs.oa s.structs.length s.hs.cap, .slice s.he.oa s.enums.length s.he.cap, .slice s.hf.oa s.fns.length s.hf.cap] 26)).alloc (.cells #[.string b.nm, .int .i64 b.params, .slice b.hl.oa nl b.hl.cap, .slice oB nb b.hb.cap] 30) := ⟨_, rfl⟩
  obtain ⟨hb0, hx0, hx1⟩ := pal2 w (.cells #[.slice s.hs.oa s.structs.length s.hs.cap, .slice s.he.oa s.enums.length s.he.cap, .slice s.hf.oa s.fns.length s.hf.cap] 26) (.cells #[.string b.nm, .int .i64 b.params, .slice b.hl.oa nl b.hl.cap, .slice oB nb b.hb.cap] 30)
  rw [← hW] at hb0 hx0 hx1
  obtain ⟨N, hN⟩ : ∃ N, N = w.heap.size := ⟨_, rfl⟩
  rw [← hN] at hx0 hx1
  have hkeep : ∀ W, Below W0.heap.size W0 W → Below W0.heap.size W0 W ∧ (W.cell? ⟨N, 0, none⟩ = some (.slice s.hs.oa s.structs.length s.hs.cap) ∧ W.cell? ⟨N, 1, none⟩ = some (.slice s.he.oa s.enums.length s.he.cap) ∧ W.cell? ⟨N, 2, none⟩ = some (.slice s.hf.oa s.fns.length s.hf.cap)) ∧ (W.cell? ⟨N + 1, 0, none⟩ = some (.string b.nm) ∧ W.cell? ⟨N + 1, 1, none⟩ = some (.int .i64 b.params) ∧ W.cell? ⟨N + 1, 2, none⟩ = some (.slice b.hl.oa nl b.hl.cap) ∧ W.cell? ⟨N + 1, 3, none⟩ = some (.slice oB nb b.hb.cap)) := fun W h => by
    have y0 := (h.block N (blk_lt hx0)).trans hx0
    have y1 := (h.block (N + 1) (blk_lt hx1)).trans hx1
    refine ⟨h, ⟨?_, ?_, ?_⟩, ⟨?_, ?_, ?_, ?_⟩⟩ <;> simp [World.cell?, y0, y1]
  have HK := Lib.hid hkeep
  have HX0 := Lib.hid (hkeep W0 (Below.refl _ _))
  have HB0 := Lib.hid hb0
  have HNW := Lib.hid (show N + 1 < W0.heap.size from blk_lt hx1)
  obtain ⟨⟨a0_0, a1_0, a2_0⟩, ⟨b0_0, b1_0, b2_0, b3_0⟩⟩ := HX0.out.2
  clear hs hsn hb hbn hlg hov hva hvc hbls hVB hbv hnb hnl hoB hb0 hx0 hx1 hkeep hbl hin hz1 hz2
  go_enter Tryz.func5, Tryz.ntmps5
  go_upto_region 1 with fail
  rw [← hW]
  clear hW
  try simp only [← hN]
  clear hN
  go_upto_region 5 with
    (first
      | (go_loud (go_at_call 8; refine (works_any W0).mono ?_; rintro e W1 ⟨rfl, hb1⟩; have HX1 := Lib.hid (HK.out W1 (HX0.out.1.trans (hb1.mono HX0.out.1.size))); obtain ⟨⟨a0_1, a1_1, a2_1⟩, ⟨b0_1, b1_1, b2_1, b3_1⟩⟩ := HX1.out.2; clear hb1))
      | (go_loud (go_at_call 9; refine (HLG.out W1 (HB0.out.trans (HX1.out.1.mono HB0.out.size))).mono ?_; rintro e W2 ⟨⟨B1, rfl⟩, hb2⟩; have HX2 := Lib.hid (HK.out W2 (HX1.out.1.trans (hb2.mono HX1.out.1.size))); obtain ⟨⟨a0_2, a1_2, a2_2⟩, ⟨b0_2, b1_2, b2_2, b3_2⟩⟩ := HX2.out.2; clear hb2)))
  clear a0_0 a1_0 a2_0 b0_0 b1_0 b2_0 b3_0
  clear a0_1 a1_1 a2_1 b0_1 b1_1 b2_1 b3_1
  cases B1 with
  | true =>
    go_wp2
    go_ret
    exact ⟨rfl, HB0.out.trans (HX2.out.1.mono HB0.out.size)⟩
  | false =>
    have hov2 := HOV.out W2 (HB0.out.trans (HX2.out.1.mono HB0.out.size))
    have HOV2 := Lib.hid (show Calls Tryz.prog 10 #[.agg #[.string b.nm, .int .i64 b.params, .slice b.hl.oa nl b.hl.cap, .slice oB nb b.hb.cap], .int .i64 250] W2 (fun e w' => (e = .returned (.bool true) ∧ Below W2.heap.size W2 w') ∨ (e = .returned (.bool false) ∧ Below W2.heap.size W2 w')) from hov2.mono fun e w' ⟨⟨B, hB⟩, h⟩ => by
      cases B with
      | true => exact .inl ⟨hB, h⟩
      | false => exact .inr ⟨hB, h⟩)
    clear hov2
    by_cases hn0 : nb = 0
    · subst hn0
      go_wp2_with (go_loud (go_at_call 10; refine HOV2.out.mono ?_; rintro e W3 (⟨rfl, hb3⟩ | ⟨rfl, hb3⟩) <;> (have HX3 := Lib.hid (HK.out W3 (HX2.out.1.trans (hb3.mono HX2.out.1.size))); obtain ⟨⟨a0_3, a1_3, a2_3⟩, ⟨b0_3, b1_3, b2_3, b3_3⟩⟩ := HX3.out.2; clear hb3)))
      all_goals (go_ret; exact ⟨rfl, HB0.out.trans (HX3.out.1.mono HB0.out.size)⟩)
    have tn0 : ((nb : Int) == 0) = false := by simp; omega
    by_cases hl0 : nl = 0
    · subst hl0
      go_wp2_with (go_loud (go_at_call 10; refine HOV2.out.mono ?_; rintro e W3 (⟨rfl, hb3⟩ | ⟨rfl, hb3⟩) <;> (have HX3 := Lib.hid (HK.out W3 (HX2.out.1.trans (hb3.mono HX2.out.1.size))); obtain ⟨⟨a0_3, a1_3, a2_3⟩, ⟨b0_3, b1_3, b2_3, b3_3⟩⟩ := HX3.out.2; clear hb3)))
      all_goals (go_ret; exact ⟨rfl, HB0.out.trans (HX3.out.1.mono HB0.out.size)⟩)
    have tl0 : ((nl : Int) == 0) = false := by simp; omega
    have HONE := Lib.hid (show ∀ v ∈ ([.string b.nm, .int .i64 b.params, .slice b.hl.oa nl b.hl.cap, .slice oB nb b.hb.cap] : List Value), v.oneCell' = true from by intro v hv; simp at hv; rcases hv with rfl | rfl | rfl | rfl <;> rfl)
    go_upto_region 8 with
      (first
        | (go_loud (go_at_call 10; refine HOV2.out.mono ?_; rintro e W3 (⟨rfl, hb3⟩ | ⟨rfl, hb3⟩) <;> (have HX3 := Lib.hid (HK.out W3 (HX2.out.1.trans (hb3.mono HX2.out.1.size))); obtain ⟨⟨a0_3, a1_3, a2_3⟩, ⟨b0_3, b1_3, b2_3, b3_3⟩⟩ := HX3.out.2; clear hb3)))
        | (go_loud (go_at_call 16; refine (HVA.out W3 (HB0.out.trans (HX3.out.1.mono HB0.out.size))).mono ?_; rintro e W4 ⟨rfl, hb4⟩; have HX4 := Lib.hid (HK.out W4 (HX3.out.1.trans (hb4.mono HX3.out.1.size))); obtain ⟨⟨a0_4, a1_4, a2_4⟩, ⟨b0_4, b1_4, b2_4, b3_4⟩⟩ := HX4.out.2; clear hb4)))
    · go_ret
      exact ⟨rfl, HB0.out.trans (HX3.out.1.mono HB0.out.size)⟩
    clear a0_2 a1_2 a2_2 b0_2 b1_2 b2_2 b3_2
    clear a0_3 a1_3 a2_3 b0_3 b1_3 b2_3 b3_3
    clear tn0 tl0
    go_upto_region 9 with (go_loud (refine wpList_store_new2 rfl 30 (.tmp 12) (.tmp 40) rfl W4 _ _ W4.heap.size rfl rfl [.string b.nm, .int .i64 b.params, .slice b.hl.oa nl b.hl.cap, .slice oB nb b.hb.cap] rfl rfl info_bo HONE.out ?_; intro W5 hb5 hbx5 hs5))
    clear a0_4 a1_4 a2_4 b0_4 b1_4 b2_4 b3_4
    obtain ⟨M, hM⟩ : ∃ M, M = W4.heap.size := ⟨_, rfl⟩
    rw [← hM] at hbx5
    try simp only [← hM]
    have hNM : N + 1 < M := by have h1 := HX4.out.1.size; have h2 := HNW.out; omega
    have HNM := Lib.hid hNM
    have HMM := Lib.hid hM
    obtain ⟨m0, m1, m2, m3, mf, ml⟩ := cells4p hbx5
    have hb6 : Below M W4 (W5.setCell ⟨M, 3, none⟩ (.slice none 0 0)) := (by rw [hM]; exact hb5 : Below M W4 W5).setCell (Nat.le_refl _) _
    have hbx6 : (W5.setCell ⟨M, 3, none⟩ (.slice none 0 0)).heap[M]? = some (.cells #[.string b.nm, .int .i64 b.params, .slice b.hl.oa nl b.hl.cap, .slice none 0 0] 30) := by
      have := heap_setCell_same W5 M 3 _ _ (.slice none 0 0) hbx5
      simpa using this
    clear hb5 hs5 hM hNM hbx5
    go_upto_region 10 with fail
    clear m0 m1 m2 m3 mf ml
    obtain ⟨W6, hW6⟩ : ∃ W, W = W5.setCell ⟨M, 3, none⟩ (.slice none 0 0) := ⟨_, rfl⟩
    rw [← hW6] at hb6 hbx6 ⊢
    clear hW6
    have HC6 := Lib.hid (show CG M W4 W6 b (.slice none 0 0) [] from ⟨hb6, by rw [HNL.out]; exact hbx6, rfl, .inl ⟨rfl, rfl⟩⟩)
    have HMK := Lib.hid (show ∀ W, Below M W4 W → Below W0.heap.size W0 W from fun W h => HX4.out.1.trans ((show Below W4.heap.size W4 W by rw [← HMM.out]; exact h).mono HX4.out.1.size))
    have HMF := Lib.hid (show ∀ W, Below M W4 W → Below w.heap.size w W from fun W h => HB0.out.trans ((HMK.out W h).mono HB0.out.size))
    have HX6 := Lib.hid (HK.out W6 (HMK.out _ HC6.out.bel)); obtain ⟨⟨a0_6, a1_6, a2_6⟩, ⟨b0_6, b1_6, b2_6, b3_6⟩⟩ := HX6.out.2
    clear hb6 hbx6
    obtain ⟨iB, hi1, hi2, hi3, hi4⟩ := info_parts infoI_Bl
    have HIB := Lib.hid (And.intro hi1 (And.intro hi2 (And.intro hi3 hi4)))
    clear hi1 hi2 hi3 hi4
    obtain ⟨m0, m1, m2, m3, mf, ml⟩ := cells4p (show W6.heap[M]? = some (.cells #[.string b.nm, .int .i64 b.params, .slice b.hl.oa nl b.hl.cap, .slice none 0 0] 30) from by have h := HC6.out.box; rw [HNL.out] at h; exact h)
    go_upto_region 11 with (at_builtin; go_loud (refine wpList_append_row rfl (.tmp 43) (.tmp 45) 28 rfl (M + 1) 60 iB _ 17 232 Tryz.underlying28 HIB.out.1 HIB.out.2.1 HIB.out.2.2.1 HIB.out.2.2.2 rfl (by decide) (.slice none 0 0) 0 (([] : List Bl).flatMap blC) rfl ?o1 (h := b.hb) (l := b.blocks) oB nb b.hb.cap nb rfl HOB.out.symm HNB.out (Nat.zero_add _) (HRW.out W6 (HMF.out W6 HC6.out.bel)) blC_len blC_one ?o3 ?o4 ?o5 ?_; rotate_left 4; intro p7 q7 W6b hown hg hv; have hbk := (hg.block M HC6.out.lt fun e => by cases e).trans HC6.out.box; rw [HNL.out] at hbk; obtain ⟨d0, d1, d2, d3, df, dl⟩ := cells4p hbk))
    case o1 => exact HC6.out.own
    case o3 => have := HBL.out; unfold maxLen; omega
    case o4 => have := HBL.out; omega
    case o5 => exact HC6.out.lt
    clear m0 m1 m2 m3 mf ml
    clear a0_6 a1_6 a2_6 b0_6 b1_6 b2_6 b3_6
    clear hbk d0 d1 d2 d3 df dl hv
    obtain ⟨W7, hW7⟩ : ∃ W, W = W6b.setCell ⟨M, 3, none⟩ (.slice p7 nb q7) := ⟨_, rfl⟩
    rw [← hW7]
    have HC7 := Lib.hid (show CG M W4 W7 b (.slice p7 nb q7) b.blocks from by rw [hW7]; exact HC6.out.set hg hown HNB.out (by simp))
    clear hW7 hown hg
    have HX7 := Lib.hid (HK.out W7 (HMK.out _ HC7.out.bel)); obtain ⟨⟨a0_7, a1_7, a2_7⟩, ⟨b0_7, b1_7, b2_7, b3_7⟩⟩ := HX7.out.2
    obtain ⟨m0, m1, m2, m3, mf, ml⟩ := cells4p (show W7.heap[M]? = some (.cells #[.string b.nm, .int .i64 b.params, .slice b.hl.oa nl b.hl.cap, .slice p7 nb q7] 30) from by have h := HC7.out.box; rw [HNL.out] at h; exact h)
    go_upto_region 12 with (at_builtin; go_loud (refine wpList_append_lies _ rfl (.tmp 49) (.tmp 53) 28 rfl (M + 1) 60 iB _ 17 232 Tryz.underlying28 HIB.out.1 HIB.out.2.1 HIB.out.2.2.1 HIB.out.2.2.2 rfl (by decide) (.slice p7 nb q7) nb (b.blocks.flatMap blC) rfl (HC7.out.own_call (alloc_below _ _) HNB.out) _ 1 1 (blC retBl) rfl (by rfl) (World.news_of_block (cs := (blC retBl).toArray) (heap_alloc_new _ _)) (blC_one _) (by decide) (by have := HBL.out; unfold maxLen; omega) (by have := HBL.out; omega) (by have := HC7.out.lt; simp; omega) _ rfl ?_; intro g8 c8 W7b hown hg hat hlt; have hbk := (hg.block M (by have := HC7.out.lt; simp; omega) fun e => by have := (own_lt HC7.out.own e.symm).1; omega).trans ((alloc_below _ _).block M HC7.out.lt |>.trans HC7.out.box); rw [HNL.out] at hbk; obtain ⟨d0, d1, d2, d3, df, dl⟩ := cells4p hbk))
    clear m0 m1 m2 m3 mf ml
    clear a0_7 a1_7 a2_7 b0_7 b1_7 b2_7 b3_7
    clear hbk d0 d1 d2 d3 df dl hat hlt
    obtain ⟨W8, hW8⟩ : ∃ W, W = W7b.setCell ⟨M, 3, none⟩ (.slice (some ⟨g8, 0, none⟩) (nb + 1) c8) := ⟨_, rfl⟩
    rw [← hW8]
    have HC8 := Lib.hid (show CG M W4 W8 b (.slice (some ⟨g8, 0, none⟩) (nb + 1) c8) (b.blocks ++ [retBl]) from by rw [hW8]; exact (HC7.out.call (alloc_below _ _)).set hg hown (by simp [HNB.out]) (by simp [List.flatMap_append]))
    clear hW8 hown hg
    have HX8 := Lib.hid (HK.out W8 (HMK.out _ HC8.out.bel)); obtain ⟨⟨a0_8, a1_8, a2_8⟩, ⟨b0_8, b1_8, b2_8, b3_8⟩⟩ := HX8.out.2
    obtain ⟨m0, m1, m2, m3, mf, ml⟩ := cells4p (show W8.heap[M]? = some (.cells #[.string b.nm, .int .i64 b.params, .slice b.hl.oa nl b.hl.cap, .slice (some ⟨g8, 0, none⟩) (nb + 1) c8] 30) from by have h := HC8.out.box; rw [HNL.out] at h; exact h)
    cases VB with
    | false =>
      go_wp2
      go_ret
      exact ⟨rfl, HMF.out _ HC8.out.bel⟩
    | true =>
      have HV8 := Lib.hid (HVC.out _ _ M W4 W8 (HMF.out _ HC8.out.bel) HC8.out (HMF.out _ (Below.refl _ _)) (Nat.le_of_eq HMM.out) (Nat.le_of_eq HMM.out.symm) (HBR.out W8 (HMF.out _ HC8.out.bel)) (fun k => valid_more k HVB.out))
      go_upto_region 14 with (go_loud (go_at_call 16; refine HV8.out.mono ?_; rintro e W9 ⟨rfl, hb9⟩; have HB9 := Lib.hid hb9; have HC9 := Lib.hid (HC8.out.call hb9); have HX9 := Lib.hid (HK.out W9 (HMK.out _ HC9.out.bel)); obtain ⟨⟨a0_9, a1_9, a2_9⟩, ⟨b0_9, b1_9, b2_9, b3_9⟩⟩ := HX9.out.2; clear hb9))
      clear m0 m1 m2 m3 mf ml
      clear a0_8 a1_8 a2_8 b0_8 b1_8 b2_8 b3_8
      obtain ⟨m0, m1, m2, m3, mf, ml⟩ := cells4p (show W9.heap[M]? = some (.cells #[.string b.nm, .int .i64 b.params, .slice b.hl.oa nl b.hl.cap, .slice (some ⟨g8, 0, none⟩) (nb + 1) c8] 30) from by have h := HC9.out.box; rw [HNL.out] at h; exact h)
      by_cases c1 : z1 < 0
      · go_wp2
        go_ret
        exact ⟨rfl, HMF.out _ HC9.out.bel⟩
      by_cases c2 : (nb : Int) ≤ z1
      · go_wp2
        go_ret
        exact ⟨rfl, HMF.out _ HC9.out.bel⟩
      by_cases c3 : z2 < 0
      · go_wp2
        go_ret
        exact ⟨rfl, HMF.out _ HC9.out.bel⟩
      obtain ⟨j, rfl⟩ : ∃ j : Nat, z1 = j := ⟨z1.toNat, by omega⟩
      obtain ⟨k, rfl⟩ : ∃ k : Nat, z2 = k := ⟨z2.toNat, by omega⟩
      have hjn : j < nb := by omega
      obtain ⟨bl, hbl⟩ : ∃ x, b.blocks[j]? = some x := ⟨_, List.getElem?_eq_getElem (by rw [HNB.out]; exact hjn)⟩
      obtain ⟨hl1, hl2, hl3, hl4⟩ := HRW.out w (Below.refl _ _)
      obtain ⟨bb, off, hoa, hbb, hcell⟩ := hl3 (by rw [HNB.out]; omega)
      rw [HOB.out] at hoa
      subst hoa
      have hbH := hl4 bl (List.mem_of_getElem? hbl)
      have hni0 := HIN.out bl (List.mem_of_getElem? hbl)
      obtain ⟨⟨oi, ci⟩, ins, ⟨tk, tp, ⟨sl, ⟨so, sc⟩, sp⟩, ⟨vk, ⟨vo, vc⟩, vu, ⟨vl, ⟨vso, vsc⟩, vp⟩, vw, vt⟩, ⟨un, ux, um, ⟨ul, ⟨uo, uc⟩, upp⟩⟩, ⟨eo, ec⟩, tt⟩⟩ := bl
      obtain ⟨ni, hni⟩ : ∃ n, ins.length = n := ⟨_, rfl⟩
      dsimp only at hni0
      rw [hni] at hni0
      have q0 : W9.cell? ⟨bb, off + j * 17, none⟩ = some (.slice oi ni ci) := ((HMF.out W9 HC9.out.bel).cell (p := ⟨bb, off + j * 17, none⟩) hbb).trans (by have h := hcell j _ hbl 0 _ rfl; rw [hni] at h; exact h)
      have HBLK := Lib.hid (And.intro hbl (And.intro hbH (And.intro hni (And.intro hni0 (And.intro hcell hbb)))))
      clear hl1 hl2 hl3 hl4 hbl hbH hni hni0 hcell
      by_cases c4 : (ni : Int) ≤ k
      · go_wp2
        go_ret
        exact ⟨rfl, HMF.out _ HC9.out.bel⟩
      have hkn : k < ni := by omega
      clear c1 c2 c3 c4
      have hri := Row.below HBLK.out.2.1.1 (HMF.out W9 HC9.out.bel) fun _ _ h => SiH.below h (HMF.out W9 HC9.out.bel)
      obtain ⟨bi, offi, hoi, hbi, -⟩ := hri.2.2.1 (by rw [HBLK.out.2.2.1]; omega)
      dsimp only at hoi
      subst hoi
      have hcap : ni ≤ ci := by have h := hri.1; rw [HBLK.out.2.2.1] at h; exact h
      have HRI := Lib.hid (And.intro hri hcap)
      clear hri hcap
      obtain ⟨iI, hi1, hi2, hi3, hi4⟩ := info_parts infoI_In
      have HII := Lib.hid (And.intro hi1 (And.intro hi2 (And.intro hi3 hi4)))
      clear hi1 hi2 hi3 hi4
      have sc1 : ¬ (ci : Int) < (k : Int) := by have := HRI.out.2; omega
      go_upto_region 18 with (at_builtin; go_loud (refine wpList_append_row rfl (.tmp 92) (.tmp 100) 58 rfl W9.heap.size 84 iI _ 15 184 Tryz.underlying58 HII.out.1 HII.out.2.1 HII.out.2.2.1 HII.out.2.2.2 rfl (by decide) (.slice none 0 0) 0 (([] : List Si).flatMap siC) rfl ?p1 (h := ⟨some ⟨bi, offi, none⟩, ci⟩) (l := ins.take k) (some ⟨bi, offi, none⟩) k ci k rfl rfl (by rw [List.length_take, HBLK.out.2.2.1]; omega) (Nat.zero_add _) (Row.take' HRI.out.1 k) siC_len siC_one ?p3 ?p4 ?p5 ?_; rotate_left 4; intro p10 q10 W10 hown hg hv))
      case p1 => exact ⟨rfl, .inl ⟨rfl, rfl⟩⟩
      case p3 => have := HBLK.out.2.2.2.1; unfold maxLen; omega
      case p4 => have := HBLK.out.2.2.2.1; omega
      try case p5 => exact Nat.le_refl _
      clear sc1
      have hb10 : Below W9.heap.size W9 W10 := (Below.refl _ _).grown hg (Nat.le_refl _) (fun k h => by cases h)
      have HO10 := Lib.hid (And.intro hown hb10)
      have HC10 := Lib.hid (HC9.out.call hb10)
      have HX10 := Lib.hid (HK.out W10 (HMK.out _ HC10.out.bel)); obtain ⟨⟨a0_10, a1_10, a2_10⟩, ⟨b0_10, b1_10, b2_10, b3_10⟩⟩ := HX10.out.2
      clear m0 m1 m2 m3 mf ml
      clear a0_9 a1_9 a2_9 b0_9 b1_9 b2_9 b3_9
      obtain ⟨m0, m1, m2, m3, mf, ml⟩ := cells4p (show W10.heap[M]? = some (.cells #[.string b.nm, .int .i64 b.params, .slice b.hl.oa nl b.hl.cap, .slice (some ⟨g8, 0, none⟩) (nb + 1) c8] 30) from by have h := HC10.out.box; rw [HNL.out] at h; exact h)
      have q0' := (hb10.cell (p := ⟨bb, off + j * 17, none⟩) (World.block_lt_of_cell? W9 _ q0)).trans q0
      clear q0 hown hg hv hb10
      have HWT := Lib.hid (show (wrap64 ((k : Int) + 1)).toNat = k + 1 from by rw [Go.IntWalk.wrap64_in _ (by have := HBLK.out.2.2.2.1; omega)]; omega)
      have sw : 0 ≤ wrap64 ((k : Int) + 1) ∧ wrap64 ((k : Int) + 1) ≤ (ni : Int) := by rw [Go.IntWalk.wrap64_in _ (by have := HBLK.out.2.2.2.1; omega)]; omega
      have sc3 : ¬ (ci : Int) < (ni : Int) := by have := HRI.out.2; omega
      have HKN := Lib.hid hkn
      have HP15 := Lib.hid (show 0 < 15 by decide)
      have HLN := Lib.hid (show (ins.drop (k + 1)).length = ni - (wrap64 ((k : Int) + 1)).toNat ∧ k + (ni - (wrap64 ((k : Int) + 1)).toNat) = ni - 1 ∧ ni - 1 ≤ maxLen ∧ (ni - 1) * 184 ≤ 140737488355328 from ⟨by rw [List.length_drop, HBLK.out.2.2.1, HWT.out], by rw [HWT.out]; omega, by have := HBLK.out.2.2.2.1; unfold maxLen; omega, by have := HBLK.out.2.2.2.1; omega⟩)
      have HFM := Lib.hid (Lib.hid (show ∀ (W : World) (B e n : Nat) (v : Value), W.ownsRow B e 15 v n (([] : List Si).flatMap siC ++ (ins.take k).flatMap siC ++ (ins.drop (k + 1)).flatMap siC) → W.ownsRow B e 15 v n ((ins.take k ++ ins.drop (k + 1)).flatMap siC) from fun W B e n v h => by rw [List.flatMap_append]; simpa using h))
      go_cut [13] (fun s13 wc => ∃ (p : Option Addr) (q : Nat), s13 = .slice p (ni - 1) q ∧ wc.ownsRow W9.heap.size 84 15 (.slice p (ni - 1) q) (ni - 1) ((ins.take k ++ ins.drop (k + 1)).flatMap siC) ∧ Below W9.heap.size W9 wc)
      case first =>
        by_cases hc : ci = (wrap64 ((k : Int) + 1)).toNat
        · have HR := Lib.hid (show Row W10 ⟨some ⟨bi, offi, none⟩, ci - (wrap64 ((k : Int) + 1)).toNat⟩ 15 (ins.drop (k + 1)) siC (SiH W10) from by rw [HWT.out] at hc ⊢; exact Row.below (Row.drop0 HRI.out.1 (k + 1) (by omega) _) HO10.out.2 fun _ _ h => SiH.below h HO10.out.2)
          go_wp2_with (at_builtin; go_loud (refine wpList_append_row rfl (.tmp 102) (.tmp 111) 58 rfl W9.heap.size 84 iI _ 15 184 Tryz.underlying58 HII.out.1 HII.out.2.1 HII.out.2.2.1 HII.out.2.2.2 rfl HP15.out (.slice p10 k q10) k (([] : List Si).flatMap siC ++ (ins.take k).flatMap siC) rfl HO10.out.1 (some ⟨bi, offi, none⟩) (ni - (wrap64 ((k : Int) + 1)).toNat) _ (ni - 1) rfl rfl HLN.out.1 HLN.out.2.1 HR.out siC_len siC_one HLN.out.2.2.1 HLN.out.2.2.2 HO10.out.2.size ?_; intro p11 q11 W11 hown hg hv))
          all_goals go_meet
          all_goals exact ⟨p11, q11, rfl, HFM.out.out _ _ _ _ _ hown, (Below.grown HO10.out.2 hg HO10.out.2.size fun b hb => (own_lt HO10.out.1 hb).1)⟩
        · have HR := Lib.hid (show Row W10 ⟨some ⟨bi, offi + (wrap64 ((k : Int) + 1)).toNat * 15, none⟩, ci - (wrap64 ((k : Int) + 1)).toNat⟩ 15 (ins.drop (k + 1)) siC (SiH W10) from by rw [HWT.out]; exact Row.below (Row.drop' HRI.out.1 (k + 1) (by rw [HBLK.out.2.2.1]; omega) _ rfl) HO10.out.2 fun _ _ h => SiH.below h HO10.out.2)
          go_wp2_with (at_builtin; go_loud (refine wpList_append_row rfl (.tmp 102) (.tmp 111) 58 rfl W9.heap.size 84 iI _ 15 184 Tryz.underlying58 HII.out.1 HII.out.2.1 HII.out.2.2.1 HII.out.2.2.2 rfl HP15.out (.slice p10 k q10) k (([] : List Si).flatMap siC ++ (ins.take k).flatMap siC) rfl HO10.out.1 (some ⟨bi, offi + (wrap64 ((k : Int) + 1)).toNat * 15, none⟩) (ni - (wrap64 ((k : Int) + 1)).toNat) _ (ni - 1) rfl rfl HLN.out.1 HLN.out.2.1 HR.out siC_len siC_one HLN.out.2.2.1 HLN.out.2.2.2 HO10.out.2.size ?_; intro p11 q11 W11 hown hg hv))
          all_goals go_meet
          all_goals exact ⟨p11, q11, rfl, HFM.out.out _ _ _ _ _ hown, (Below.grown HO10.out.2 hg HO10.out.2.size fun b hb => (own_lt HO10.out.1 hb).1)⟩
      case rest =>
        obtain ⟨p11, q11, rfl, hown, hb11⟩ := hcut
        obtain ⟨W11, hW11⟩ : ∃ W, W = wc := ⟨_, rfl⟩
        rw [← hW11] at hown hb11 ⊢
        clear hW11
        have HC11 := Lib.hid (HC9.out.call hb11)
        have HO11 := Lib.hid (And.intro hown hb11)
        clear hown hb11 sw sc3 q0'
        have HX11 := Lib.hid (HK.out W11 (HMK.out _ HC11.out.bel)); obtain ⟨⟨a0_11, a1_11, a2_11⟩, ⟨b0_11, b1_11, b2_11, b3_11⟩⟩ := HX11.out.2
        clear m0 m1 m2 m3 mf ml
        clear a0_10 a1_10 a2_10 b0_10 b1_10 b2_10 b3_10
        obtain ⟨m0, m1, m2, m3, mf, ml⟩ := cells4p (show W11.heap[M]? = some (.cells #[.string b.nm, .int .i64 b.params, .slice b.hl.oa nl b.hl.cap, .slice (some ⟨g8, 0, none⟩) (nb + 1) c8] 30) from by have h := HC11.out.box; rw [HNL.out] at h; exact h)

        have hbM : bb < M := by have h1 := (HMF.out W4 (Below.refl _ _)).size; have h2 := HMM.out; omega
        have HST := Lib.hid (show ∀ W, Below M W4 W → (W.cell? ⟨M, 3, none⟩ = some (.slice (some ⟨g8, 0, none⟩) (nb + 1) c8)) → (fun w' : World => W.cell? ⟨M, 3, none⟩ = some (.slice (some ⟨g8, 0, none⟩) (nb + 1) c8) ∧ W.cell? ⟨N + 1, 3, none⟩ = some (.slice (some ⟨bb, off, none⟩) nb b.hb.cap) ∧ W.cell? ⟨bb, off + j * 17 + 1, none⟩ = some (.int .i64 tk) ∧ W.cell? ⟨bb, off + j * 17 + 1 + 1, none⟩ = some (.int .i64 tp) ∧ W.cell? ⟨bb, off + j * 17 + 1 + 2, none⟩ = some (.int .i64 sl) ∧ W.cell? ⟨bb, off + j * 17 + 1 + 3, none⟩ = some (.slice so sp.length sc) ∧ W.cell? ⟨bb, off + j * 17 + 1 + 4, none⟩ = some (.int .i64 vk) ∧ W.cell? ⟨bb, off + j * 17 + 1 + 5, none⟩ = some (.slice vo vu.length vc) ∧ W.cell? ⟨bb, off + j * 17 + 1 + 6, none⟩ = some (.int .i64 vl) ∧ W.cell? ⟨bb, off + j * 17 + 1 + 7, none⟩ = some (.slice vso vp.length vsc) ∧ W.cell? ⟨bb, off + j * 17 + 1 + 8, none⟩ = some (.int .i64 vw) ∧ W.cell? ⟨bb, off + j * 17 + 1 + 9, none⟩ = some (.int .i64 vt) ∧ W.cell? ⟨bb, off + j * 17 + 1 + 10, none⟩ = some (.bool un) ∧ W.cell? ⟨bb, off + j * 17 + 1 + 11, none⟩ = some (.int .i64 ux) ∧ W.cell? ⟨bb, off + j * 17 + 1 + 12, none⟩ = some (.bool um) ∧ W.cell? ⟨bb, off + j * 17 + 1 + 13, none⟩ = some (.int .i64 ul) ∧ W.cell? ⟨bb, off + j * 17 + 1 + 14, none⟩ = some (.slice uo upp.length uc) ∧ W.cell? ⟨bb, off + j * 17 + 1 + 15, none⟩ = some (.slice eo tt.length ec)) W from fun W h hm => by
          have hc := fun (o : Nat) => (HMF.out W h).cell (p := ⟨bb, o, none⟩) (by have := HBLK.out.2.2.2.2.2; exact this)
          have hcell := HBLK.out.2.2.2.2.1 j _ HBLK.out.1
          refine ⟨hm, (HK.out W (HMK.out W h)).2.2.2.2.2, (hc _).trans (hcell 1 _ rfl), (hc _).trans (hcell 2 _ rfl), (hc _).trans (hcell 3 _ rfl), (hc _).trans (hcell 4 _ rfl), (hc _).trans (hcell 5 _ rfl), (hc _).trans (hcell 6 _ rfl), (hc _).trans (hcell 7 _ rfl), (hc _).trans (hcell 8 _ rfl), (hc _).trans (hcell 9 _ rfl), (hc _).trans (hcell 10 _ rfl), (hc _).trans (hcell 11 _ rfl), (hc _).trans (hcell 12 _ rfl), (hc _).trans (hcell 13 _ rfl), (hc _).trans (hcell 14 _ rfl), (hc _).trans (hcell 15 _ rfl), (hc _).trans (hcell 16 _ rfl)⟩)
        obtain ⟨-, hcO | ⟨g', cap', cur, e1, e2, e3, e4, e5, e6, e7⟩⟩ := HC11.out.own
        · exact absurd hcO.1 (by simp)
        simp only [Value.slice.injEq, Option.some.injEq, Addr.mk.injEq, and_true] at e1
        obtain ⟨rfl, -, rfl⟩ := e1
        have hlt8 : M + 1 ≤ g8 ∧ g8 < W9.heap.size := own_lt HC9.out.own rfl
        have hle8 : nb + 1 ≤ c8 := by have h := e4; simp only [List.length_append, List.length_singleton, HNB.out] at h; exact h
        have HCU := Lib.hid (show W11.heap[g8]? = some (.cells cur.toList.toArray 60) ∧ j * 17 + 17 ≤ cur.toList.length from ⟨by simpa using e3, by simp only [Array.length_toList]; have h6 := e6; rw [h6]; omega⟩)
        have hil : (ins.take k ++ ins.drop (k + 1)).length = ni - 1 := by rw [List.length_append, List.length_take, List.length_drop, HBLK.out.2.2.1]; have := HKN.out; omega
        have HIL := Lib.hid hil
        have HLT8 := Lib.hid hlt8
        have HON := Lib.hid (show ∀ v ∈ ([.slice p11 (ni - 1) q11, .int .i64 tk, .int .i64 tp, .int .i64 sl, .slice so sp.length sc, .int .i64 vk, .slice vo vu.length vc, .int .i64 vl, .slice vso vp.length vsc, .int .i64 vw, .int .i64 vt, .bool un, .int .i64 ux, .bool um, .int .i64 ul, .slice uo upp.length uc, .slice eo tt.length ec] : List Value), v.oneCell' = true from by intro v hv; simp at hv; rcases hv with rfl | rfl | rfl | rfl | rfl | rfl | rfl | rfl | rfl | rfl | rfl | rfl | rfl | rfl | rfl | rfl | rfl <;> rfl)
        have HM3 := Lib.hid (show W11.cell? ⟨M, 3, none⟩ = some (.slice (some ⟨g8, 0, none⟩) (nb + 1) c8) from m3)
        have i0 : (0 : Int) ≤ (j : Int) := by omega
        have i1 : (j : Int) < (nb : Int) := by omega
        have i2 : (j : Int) < (nb : Int) + 1 := by omega
        clear e2 e3 e4 e5 e6 e7 hlt8 hle8 hil hbM
        go_upto_region 19 with fail
        refine wp_region_held_drew (S := fun w' => w'.cell? ⟨M, 3, none⟩ = some (.slice (some ⟨g8, 0, none⟩) (nb + 1) c8) ∧ w'.cell? ⟨N + 1, 3, none⟩ = some (.slice (some ⟨bb, off, none⟩) nb b.hb.cap) ∧ w'.cell? ⟨bb, off + j * 17 + 1, none⟩ = some (.int .i64 tk) ∧ w'.cell? ⟨bb, off + j * 17 + 1 + 1, none⟩ = some (.int .i64 tp) ∧ w'.cell? ⟨bb, off + j * 17 + 1 + 2, none⟩ = some (.int .i64 sl) ∧ w'.cell? ⟨bb, off + j * 17 + 1 + 3, none⟩ = some (.slice so sp.length sc) ∧ w'.cell? ⟨bb, off + j * 17 + 1 + 4, none⟩ = some (.int .i64 vk) ∧ w'.cell? ⟨bb, off + j * 17 + 1 + 5, none⟩ = some (.slice vo vu.length vc) ∧ w'.cell? ⟨bb, off + j * 17 + 1 + 6, none⟩ = some (.int .i64 vl) ∧ w'.cell? ⟨bb, off + j * 17 + 1 + 7, none⟩ = some (.slice vso vp.length vsc) ∧ w'.cell? ⟨bb, off + j * 17 + 1 + 8, none⟩ = some (.int .i64 vw) ∧ w'.cell? ⟨bb, off + j * 17 + 1 + 9, none⟩ = some (.int .i64 vt) ∧ w'.cell? ⟨bb, off + j * 17 + 1 + 10, none⟩ = some (.bool un) ∧ w'.cell? ⟨bb, off + j * 17 + 1 + 11, none⟩ = some (.int .i64 ux) ∧ w'.cell? ⟨bb, off + j * 17 + 1 + 12, none⟩ = some (.bool um) ∧ w'.cell? ⟨bb, off + j * 17 + 1 + 13, none⟩ = some (.int .i64 ul) ∧ w'.cell? ⟨bb, off + j * 17 + 1 + 14, none⟩ = some (.slice uo upp.length uc) ∧ w'.cell? ⟨bb, off + j * 17 + 1 + 15, none⟩ = some (.slice eo tt.length ec)) (by kernel_rfl) ?_ (fun hHeld => ?_)
        · exact HST.out _ HC11.out.bel.drew HM3.out
        refine wpAnyH_take (i := 0) (oi := { dst := some 113, op := Op.fieldAddr 30 (Operand.tmp 12) 3, type := 0, pos := "law.go:129", after := #[], guard := none }) (v := ?vq0_1) rfl (by kernel_rfl) (by kernel_rfl) (by kernel_rfl) (fun _ _ _ h => h) (Or.inl ⟨by rfl, ?hq0_1⟩) (by assumption) ?_
        case hq0_1 => intro w hSw; (try dsimp only at hSw); go_simp; try (with_reducible rfl)
        (try simp only [Act.put, qA, qB, qC])
        refine wpAnyH_take (i := 1) (oi := { dst := some 114, op := Op.load 28 (Operand.tmp 113), type := 28, pos := "law.go:129", after := #[{ on := 0, ground := Ground.data }], guard := none }) (v := ?vq1_2) rfl (by kernel_rfl) (by kernel_rfl) (by kernel_rfl) (fun _ _ _ h => h) (Or.inl ⟨by rfl, ?hq1_2⟩) (by assumption) ?_
        case hq1_2 => intro w hSw; (try dsimp only at hSw); go_simp; try (with_reducible rfl)
        (try simp only [Act.put, qA, qB, qC])
        refine wpAnyH_take (i := 2) (oi := { dst := some 115, op := Op.move (Operand.tmp 2), type := 3, pos := "law.go:129", after := #[], guard := none }) (v := ?vq2_3) rfl (by kernel_rfl) (by kernel_rfl) (by kernel_rfl) (fun _ _ _ h => h) (Or.inl ⟨by rfl, ?hq2_3⟩) (by assumption) ?_
        case hq2_3 => intro w hSw; (try dsimp only at hSw); go_simp; try (with_reducible rfl)
        (try simp only [Act.put, qA, qB, qC])
        refine wpAnyH_take (i := 3) (oi := { dst := some 116, op := Op.move (Operand.tmp 13), type := 58, pos := "law.go:129", after := #[], guard := none }) (v := ?vq3_4) rfl (by kernel_rfl) (by kernel_rfl) (by kernel_rfl) (fun _ _ _ h => h) (Or.inl ⟨by rfl, ?hq3_4⟩) (by assumption) ?_
        case hq3_4 => intro w hSw; (try dsimp only at hSw); go_simp; try (with_reducible rfl)
        (try simp only [Act.put, qA, qB, qC])
        refine wpAnyH_take (i := 4) (oi := { dst := some 117, op := Op.fieldAddr 30 (Operand.tmp 5) 3, type := 0, pos := "law.go:129", after := #[], guard := none }) (v := ?vq4_5) rfl (by kernel_rfl) (by kernel_rfl) (by kernel_rfl) (fun _ _ _ h => h) (Or.inl ⟨by rfl, ?hq4_5⟩) (by assumption) ?_
        case hq4_5 => intro w hSw; (try dsimp only at hSw); go_simp; try (with_reducible rfl)
        (try simp only [Act.put, qA, qB, qC])
        refine wpAnyH_take (i := 5) (oi := { dst := some 118, op := Op.load 28 (Operand.tmp 117), type := 28, pos := "law.go:129", after := #[{ on := 4, ground := Ground.data }], guard := none }) (v := ?vq5_6) rfl (by kernel_rfl) (by kernel_rfl) (by kernel_rfl) (fun _ _ _ h => h) (Or.inl ⟨by rfl, ?hq5_6⟩) (by assumption) ?_
        case hq5_6 => intro w hSw; (try dsimp only at hSw); go_simp; try (with_reducible rfl)
        (try simp only [Act.put, qA, qB, qC])
        refine wpAnyH_take (i := 6) (oi := { dst := some 119, op := Op.move (Operand.tmp 2), type := 3, pos := "law.go:129", after := #[], guard := none }) (v := ?vq6_7) rfl (by kernel_rfl) (by kernel_rfl) (by kernel_rfl) (fun _ _ _ h => h) (Or.inl ⟨by rfl, ?hq6_7⟩) (by assumption) ?_
        case hq6_7 => intro w hSw; (try dsimp only at hSw); go_simp; try (with_reducible rfl)
        (try simp only [Act.put, qA, qB, qC])
        refine wpAnyH_take (i := 7) (oi := { dst := some 120, op := Op.indexAddr 28 (Operand.tmp 118) (Operand.tmp 119), type := 0, pos := "law.go:129", after := #[{ on := 5, ground := Ground.data }, { on := 6, ground := Ground.data }], guard := none }) (v := ?vq7_8) rfl (by kernel_rfl) (by kernel_rfl) (by kernel_rfl) (fun _ _ _ h => h) (Or.inl ⟨by rfl, ?hq7_8⟩) (by assumption) ?_
        case hq7_8 => intro w hSw; (try dsimp only at hSw); go_simp; try (with_reducible rfl)
        (try simp only [Act.put, qA, qB, qC])
        refine wpAnyH_take (i := 8) (oi := { dst := some 121, op := Op.fieldAddr 60 (Operand.tmp 120) 1, type := 0, pos := "law.go:129", after := #[{ on := 7, ground := Ground.data }], guard := none }) (v := ?vq8_9) rfl (by kernel_rfl) (by kernel_rfl) (by kernel_rfl) (fun _ _ _ h => h) (Or.inl ⟨by rfl, ?hq8_9⟩) (by assumption) ?_
        case hq8_9 => intro w hSw; (try dsimp only at hSw); go_simp; try (with_reducible rfl)
        (try simp only [Act.put, qA, qB, qC])
        refine wpAnyH_take (i := 9) (oi := { dst := some 122, op := Op.load 57 (Operand.tmp 121), type := 57, pos := "law.go:129", after := #[{ on := 8, ground := Ground.data }], guard := none }) (v := .agg #[.int .i64 tk, .int .i64 tp, .int .i64 sl, .slice so sp.length sc, .int .i64 vk, .slice vo vu.length vc, .int .i64 vl, .slice vso vp.length vsc, .int .i64 vw, .int .i64 vt, .bool un, .int .i64 ux, .bool um, .int .i64 ul, .slice uo upp.length uc, .slice eo tt.length ec]) rfl (by kernel_rfl) (by kernel_rfl) (by kernel_rfl) (fun _ _ _ h => h) (Or.inl ⟨by rfl, ?hq9_10⟩) (by assumption) ?_
        case hq9_10 => intro w hSw; (try dsimp only at hSw); go_simp; try (with_reducible rfl)
        (try simp only [Act.put, qA, qB, qC])
        refine wpAnyH_take (i := 10) (oi := { dst := some 123, op := Op.build 60 #[(0, Operand.tmp 116), (1, Operand.tmp 122)], type := 60, pos := "law.go:129", after := #[{ on := 3, ground := Ground.data }, { on := 9, ground := Ground.data }], guard := none }) (v := .agg #[.slice p11 (ni - 1) q11, .int .i64 tk, .int .i64 tp, .int .i64 sl, .slice so sp.length sc, .int .i64 vk, .slice vo vu.length vc, .int .i64 vl, .slice vso vp.length vsc, .int .i64 vw, .int .i64 vt, .bool un, .int .i64 ux, .bool um, .int .i64 ul, .slice uo upp.length uc, .slice eo tt.length ec]) rfl (by kernel_rfl) (by kernel_rfl) (by kernel_rfl) (fun _ _ _ h => h) (Or.inl ⟨by rfl, ?hq10_11⟩) (by assumption) ?_
        case hq10_11 => intro w hSw; (try dsimp only at hSw); go_simp; try (with_reducible rfl)
        (try simp only [Act.put, qA, qB, qC])
        refine wpAnyH_take (i := 11) (oi := { dst := some 124, op := Op.indexAddr 28 (Operand.tmp 114) (Operand.tmp 115), type := 0, pos := "law.go:129", after := #[{ on := 1, ground := Ground.data }, { on := 2, ground := Ground.data }, { on := 0, ground := Ground.phase }, { on := 1, ground := Ground.phase }, { on := 2, ground := Ground.phase }, { on := 3, ground := Ground.phase }, { on := 4, ground := Ground.phase }, { on := 5, ground := Ground.phase }, { on := 6, ground := Ground.phase }, { on := 7, ground := Ground.phase }, { on := 8, ground := Ground.phase }, { on := 9, ground := Ground.phase }, { on := 10, ground := Ground.phase }], guard := none }) (v := ?vq11_12) rfl (by kernel_rfl) (by kernel_rfl) (by kernel_rfl) (fun _ _ _ h => h) (Or.inl ⟨by rfl, ?hq11_12⟩) (by assumption) ?_
        case hq11_12 => intro w hSw; (try dsimp only at hSw); go_simp; try (with_reducible rfl)
        (try simp only [Act.put, qA, qB, qC])
        refine wpAnyH_ready (rs := [12]) (by kernel_rfl) (by simp) ?_
        refine AllReadyH.cons (o := { dst := none, op := Op.store 60 (Operand.tmp 124) (Operand.tmp 123), type := 0, pos := "law.go:129", after := #[{ on := 11, ground := Ground.data }, { on := 10, ground := Ground.data }, { on := 0, ground := Ground.phase }, { on := 1, ground := Ground.phase }, { on := 2, ground := Ground.phase }, { on := 3, ground := Ground.phase }, { on := 4, ground := Ground.phase }, { on := 5, ground := Ground.phase }, { on := 6, ground := Ground.phase }, { on := 7, ground := Ground.phase }, { on := 8, ground := Ground.phase }, { on := 9, ground := Ground.phase }, { on := 10, ground := Ground.phase }], guard := none }) rfl (fun K hK => ?_) AllReadyH.nil
        refine wp_store_box 60 (.tmp 124) (.tmp 123) rfl g8 _ rfl _ rfl (vs := [.slice p11 (ni - 1) q11, .int .i64 tk, .int .i64 tp, .int .i64 sl, .slice so sp.length sc, .int .i64 vk, .slice vo vu.length vc, .int .i64 vl, .slice vso vp.length vsc, .int .i64 vw, .int .i64 vt, .bool un, .int .i64 ux, .bool um, .int .i64 ul, .slice uo upp.length uc, .slice eo tt.length ec] ) rfl cur.toList 60 HCU.out.1 ?st1 info_bl ?st2 M ?st3 W4 HC11.out.bel.drew (fun W12 hb12 hbx12 hoth12 => hK.out _ _ ?st4 (fun hHeld => ?_))
        case st1 => exact HCU.out.2
        case st2 => exact HON.out
        case st3 => exact Nat.le_of_lt HLT8.out.1
        case st4 => exact HST.out _ hb12 ((World.cell?_of_block (hoth12 M (by have := HLT8.out.1; omega))).trans HM3.out)
        clear hK K
        refine wpAnyH_done (by kernel_rfl) ?_ _
        have HC12 := Lib.hid (show CG M W4 W12 b (.slice (some ⟨g8, 0, none⟩) (nb + 1) c8) ((b.blocks ++ [retBl]).set j (⟨⟨p11, q11⟩, ins.take k ++ ins.drop (k + 1), ⟨tk, tp, ⟨sl, ⟨so, sc⟩, sp⟩, ⟨vk, ⟨vo, vc⟩, vu, ⟨vl, ⟨vso, vsc⟩, vp⟩, vw, vt⟩, ⟨un, ux, um, ⟨ul, ⟨uo, uc⟩, upp⟩⟩, ⟨eo, ec⟩, tt⟩⟩ : Bl)) from
          (HC11.out.call (Below.refl _ _).drew).store (g := g8) (cap := c8) (cur := cur) (T := 60) (by simp [HNB.out]) (by have h := HCU.out.1; rw [Array.toArray_toList] at h; exact h) (by simp [HNB.out]; omega) (by have h := hbx12; rw [← HIL.out] at h; exact h) hoth12 hb12)
        have hkp : ∀ q, W9.heap.size ≤ q → W12.heap[q]? = W11.heap[q]? := fun q hq => hoth12 q (by have := HLT8.out.2; omega)
        have HRN := Lib.hid (show Row W12 ⟨p11, q11⟩ 15 (ins.take k ++ ins.drop (k + 1)) siC (SiH W12) from by
          have ho := own_keep HO11.out.1 fun q hq => hkp q (own_lt HO11.out.1 hq).1
          rw [← HIL.out] at ho
          obtain ⟨hh, h1, h2⟩ := row_of_own ho siC_len (Q := SiH W12) fun x hx => by
            have hx' : x ∈ ins := by
              rcases List.mem_append.1 hx with hx | hx
              · exact List.mem_of_mem_take hx
              · exact List.mem_of_mem_drop hx
            exact SiH.below (HBLK.out.2.1.1.2.2.2 x hx') (HMF.out W12 HC12.out.bel)
          obtain ⟨ho1, ho2⟩ := hh
          simp only [Value.slice.injEq] at h1
          obtain ⟨rfl, -, rfl⟩ := h1
          exact h2)
        have HV12 := Lib.hid (HVC.out _ _ M W4 W12 (HMF.out _ HC12.out.bel) HC12.out (HMF.out _ (Below.refl _ _)) (Nat.le_of_eq HMM.out) (Nat.le_of_eq HMM.out.symm) (fun x hx => by
          rcases List.mem_or_eq_of_mem_set hx with hx | rfl
          · exact HBR.out W12 (HMF.out _ HC12.out.bel) x hx
          · exact ⟨HRN.out, TnH.below HBLK.out.2.1.2 (HMF.out W12 HC12.out.bel)⟩) (fun kk => valid_less (valid_more kk HVB.out) ((List.getElem?_append_left (by rw [HNB.out]; omega)).trans HBLK.out.1) (fun x hx => by
              rcases List.mem_append.1 hx with hx | hx
              · exact List.mem_of_mem_take hx
              · exact List.mem_of_mem_drop hx) kk))
        clear hb12 hbx12 hoth12 hkp hHeld
        have HX12 := Lib.hid (HK.out W12 (HMK.out _ HC12.out.bel)); obtain ⟨⟨a0_12, a1_12, a2_12⟩, ⟨b0_12, b1_12, b2_12, b3_12⟩⟩ := HX12.out.2
        clear m0 m1 m2 m3 mf ml
        clear a0_11 a1_11 a2_11 b0_11 b1_11 b2_11 b3_11
        obtain ⟨m0, m1, m2, m3, mf, ml⟩ := cells4p (show W12.heap[M]? = some (.cells #[.string b.nm, .int .i64 b.params, .slice b.hl.oa nl b.hl.cap, .slice (some ⟨g8, 0, none⟩) (nb + 1) c8] 30) from by have h := HC12.out.box; rw [HNL.out] at h; exact h)
        go_wp2_with (go_loud (go_at_call 16; refine HV12.out.mono ?_; rintro e W13 ⟨rfl, hb13⟩; have HC13 := Lib.hid (HC12.out.call hb13); clear hb13))
        go_ret
        exact ⟨rfl, HMF.out _ HC13.out.bel⟩
end Go.Proofs.YtghkbihgdabamaaGreatDoor

namespace Go.Proofs.YtghkbihgdabamaaGreatDoor
open Go.RowKit Go.ChangeShapes Go.WideShapes Go.ChangeAt

theorem own : ownKnob Tryz.prog.godebug = none := by kernel_rfl
theorem laidOut : laidOutB Tryz.prog = true := by kernel_rfl

section
variable {H : Type} {enc : TypeId × Value → H}

theorem trodAll_below {P : Program} (hl : laidOutB P = true) {W W' : World} (hb : Below W.heap.size W W') (ts : List TypeId) : ∀ (vs : List Value) (ds : List (DataW H)) (ps : List MemPlace), (ts.all fun t => P.readableRec t && decide (t < P.types.size)) = true →
    DataW.TrodAll enc P W 0 (fun _ => true) true ts vs ds ps → (∀ x ∈ ps, x.block < W.heap.size) → DataW.TrodAll enc P W' 0 (fun b => decide (b < W.heap.size)) true ts vs ds ps := by
  induction ts with
  | nil =>
    intro vs ds ps _ h _
    obtain ⟨rfl, rfl, rfl⟩ := trodAll_nil h
    rfl
  | cons t ts ih =>
    intro vs ds ps hr h hlt
    obtain ⟨v0, vs0, d0, ds0, p0, q0, rfl, rfl, rfl, h0, r0⟩ := trodAll_cons h
    simp only [List.all_cons, Bool.and_eq_true, decide_eq_true_eq] at hr
    obtain ⟨⟨h1, h2⟩, h3⟩ := hr
    exact trodAll_cons_mk (Below.trod hl h1 h2 h0 hb fun x hx => hlt x (List.mem_append_left _ hx)) (ih vs0 ds0 q0 (by simpa using h3) r0 fun x hx => hlt x (List.mem_append_right _ hx))

theorem law_post {f : Func} {s : ChangeSpec} {W W' : World} {args : Array Value} {ds gs : List (DataW H)} {before : List MemPlace} (hv0 : s.vars = []) (hr : f.resultTypes = #[4])
    (hp : (f.params.toList.all fun t => Tryz.prog.readableRec t && decide (t < Tryz.prog.types.size)) = true)
    (hfn : s.fn H (ds ++ gs) = { results := [.lit (.bool true)], args := ds })
    (hW : DataW.Whole enc Tryz.prog f.params.toList s.vars false W args.toList ds gs before) (hb : Below W.heap.size W W') :
    s.post enc Tryz.prog f false true false false W args (.bool true) W' := by
  have hW' := hW
  have hlt := hW.lt
  obtain ⟨p, q, hA, hV, rfl, hfz, hnd⟩ := hW
  rw [hv0] at hV
  obtain ⟨rfl, rfl⟩ := trodVars_none hV
  have hlt' : ∀ x ∈ p, x.block < W.heap.size := fun x hx => hlt x (by simpa using hx)
  refine ⟨ds, [], _, [], p, [], hW', ?_, ?_, ?_, hb.frame _, fun h => by cases h⟩
  · rw [hfn, hr]
    exact trodAll_mk1 (shut_bool Tryz.underlying4 _)
  · rw [hfn]
    exact trodAll_below laidOut hb _ _ _ _ hp hA hlt'
  · rw [hv0, hfn]
    rfl
end

def laid3 : List (String × DataW Unit) := [("math/bits.deBruijn32tab", Rows.laid_math_bits_deBruijn32tab), ("math/bits.deBruijn64tab", Rows.laid_math_bits_deBruijn64tab), ("internal/strconv.uint64pow10", Rows.laid_internal_strconv_uint64pow10)]

theorem door_met (os : Os) (args : Array Value) : laidMetH Tryz.prog laid3 ((World.doorLaid Tryz.prog 400 os).forCall (fun _ _ => 0) ⟨#[], args, []⟩).memory :=
  laidMetH_of_parts3 (fuel := 8) (laidMet_of_run' 8 (by kernel_rfl) (by kernel_rfl)) (by kernel_rfl) (by kernel_rfl)

end Go.Proofs.YtghkbihgdabamaaGreatDoor
