/-
  MirUses answers true. Conditions: the source, the body and the use lie in the heap; no declared type is too large.
-/
import Derived.Test.YtmcjeicdjneinaaGreatDoorJQUsP
import Derived.Test.YtmcjeicdjneinaaGreatDoorJQOver
import Derived.Test.YtmcjeicdjneinaaGreatDoorJQWorks
import Derived.Test.YtmcjeicdjneinaaGreatDoorJQSameTy
namespace Go.Proofs.YtmcjeicdjneinaaGreatDoor
open Go.RowKit

mutual
theorem tyEq_rf : ∀ t, tyEq t t = true
  | .mk k nm h l => by rw [tyEq, tysEq_rf l]; simp
theorem tysEq_rf : ∀ l, tysEq l l = true
  | [] => rfl
  | x :: l => by rw [tysEq, tyEq_rf x, tysEq_rf l]; rfl
end
set_option maxRecDepth 100000 in
set_option maxHeartbeats 40000000 in
theorem mirUses_walk (d : Nat) (s : So5) (b : Bo) (u : Us) (w : World) (hs : SoH d w s) (hsn : SoN s) (hb : BoH d w b) (hbn : BoN b) (hu : UsH w u) :
    Calls Tryz.prog 6 #[soV s, boV b, usV u] w fun e w' => e = .returned (.bool true) ∧ Below w.heap.size w w' := by
  have hbv : boV b = .agg #[.string b.nm, .int .i64 b.params, .slice b.hl.oa b.locals.length b.hl.cap, .slice b.hb.oa b.blocks.length b.hb.cap] := by cases b; rfl
  have hlg := fun W (h : Below w.heap.size w W) => large_any d s 250 W (SoH.below hs h)
  have hov := fun W (h : Below w.heap.size w W) => over_any d b 250 W (BoH.below hb h)
  have hva := fun W (h : Below w.heap.size w W) => valid_any d s b W (SoH.below hs h) hsn (BoH.below hb h) hbn
  have hty := fun W (h : Below w.heap.size w W) => type_any d s b u.s W (SoH.below hs h) hsn (BoH.below hb h) hbn (SpH.below hu.2 h)
  have hmv := fun (p : Nat) W (h : Below w.heap.size w W) (hp : W.heap[p]? = some (.cells (usC u).toArray 42)) => mvalue_any d s b ⟨0, ⟨some ⟨p, 0, none⟩, 1⟩, [u], ⟨0, h0, []⟩, 0, 0⟩ W (SoH.below hs h) hsn (BoH.below hb h) ⟨i0, rowq (xs := [u]) (C := usC) (by simpa using hp) usC_len (show 1 ≤ maxLen by unfold maxLen; decide) (fun x hx => by obtain rfl := List.mem_singleton.1 hx; exact UsH.below hu h), spZ_H W, i0, i0⟩ (val_use_N hsn hbn d _ u)
  have hgood := fun (h : validB s d b = true) r (hr : spotR s d b u.s = some r) => goodT_kd (spot_good (valid_locals h) hr)
  obtain ⟨VB, hVB⟩ : ∃ B, validB s d b = B := ⟨_, rfl⟩
  obtain ⟨E, hE⟩ : ∃ B, useR s d b u = B := ⟨_, rfl⟩
  obtain ⟨R, hR⟩ : ∃ B, spotR s d b u.s = B := ⟨_, rfl⟩
  simp only [val_use] at hmv
  simp only [hVB] at hva hgood
  simp only [hE] at hmv
  simp only [hR] at hty hgood
  have hER : E = if u.num = true then (if u.mv || !noSpB u.s then none else some (.mk 1 nil5 h0 [])) else useO R u.n u.mv u.s.path.length := by rw [← hE, ← hR]; rfl
  obtain ⟨num, n, mv, ⟨loc, ph, path⟩⟩ := u
  obtain ⟨np, hnp⟩ : ∃ k, path.length = k := ⟨_, rfl⟩
  dsimp only at hER
  unfold noSpB at hER
  simp only [hnp] at hER
  rw [soV_hd] at hlg hva hty hmv ⊢
  rw [hbv] at hov hva hty hmv ⊢
  simp only [usV, usC, spV, spC, vaV, vaC, List.cons_append, List.nil_append, hnp] at hty hmv ⊢
  change ∀ (p : Nat) W, _ → _ → Calls _ _ #[_, _, .agg #[.int .i64 0, .slice (some ⟨p, 0, none⟩) 1 1, .int .i64 0, .slice none 0 0, .int .i64 0, .int .i64 0]] W _ at hmv
  have HLG := Lib.hid hlg
  have HOV := Lib.hid hov
  have HVA := Lib.hid hva
  have HTY := Lib.hid hty
  have HMV := Lib.hid hmv
  have HER := Lib.hid hER
  have HGD := Lib.hid hgood
  obtain ⟨W0, hW⟩ : ∃ W, W = ((w.alloc (.cells #[.slice s.hs.oa s.structs.length s.hs.cap, .slice s.he.oa s.enums.length s.he.cap, .slice s.hf.oa s.fns.length s.hf.cap] 26)).alloc (.cells #[.string b.nm, .int .i64 b.params, .slice b.hl.oa b.locals.length b.hl.cap, .slice b.hb.oa b.blocks.length b.hb.cap] 30)).alloc (.cells #[.bool num, .int .i64 n, .bool mv, .int .i64 loc, .slice ph.oa np ph.cap] 42) := ⟨_, rfl⟩
  obtain ⟨hb0, hx0, hx1, hx2⟩ := pal3 w (.cells #[.slice s.hs.oa s.structs.length s.hs.cap, .slice s.he.oa s.enums.length s.he.cap, .slice s.hf.oa s.fns.length s.hf.cap] 26) (.cells #[.string b.nm, .int .i64 b.params, .slice b.hl.oa b.locals.length b.hl.cap, .slice b.hb.oa b.blocks.length b.hb.cap] 30) (.cells #[.bool num, .int .i64 n, .bool mv, .int .i64 loc, .slice ph.oa np ph.cap] 42)
  rw [← hW] at hb0 hx0 hx1 hx2
  obtain ⟨N, hN⟩ : ∃ N, N = w.heap.size := ⟨_, rfl⟩
  rw [← hN] at hx0 hx1 hx2
  have hkeep : ∀ W, Below W0.heap.size W0 W → Below W0.heap.size W0 W ∧ (W.cell? ⟨N, 0, none⟩ = some (.slice s.hs.oa s.structs.length s.hs.cap) ∧ W.cell? ⟨N, 1, none⟩ = some (.slice s.he.oa s.enums.length s.he.cap) ∧ W.cell? ⟨N, 2, none⟩ = some (.slice s.hf.oa s.fns.length s.hf.cap)) ∧ (W.cell? ⟨N + 1, 0, none⟩ = some (.string b.nm) ∧ W.cell? ⟨N + 1, 1, none⟩ = some (.int .i64 b.params) ∧ W.cell? ⟨N + 1, 2, none⟩ = some (.slice b.hl.oa b.locals.length b.hl.cap) ∧ W.cell? ⟨N + 1, 3, none⟩ = some (.slice b.hb.oa b.blocks.length b.hb.cap)) ∧ (W.cell? ⟨N + 1 + 1, 0, none⟩ = some (.bool num) ∧ W.cell? ⟨N + 1 + 1, 1, none⟩ = some (.int .i64 n) ∧ W.cell? ⟨N + 1 + 1, 2, none⟩ = some (.bool mv) ∧ W.cell? ⟨N + 1 + 1, 3, none⟩ = some (.int .i64 loc) ∧ W.cell? ⟨N + 1 + 1, 3 + 1, none⟩ = some (.slice ph.oa np ph.cap)) := fun W h => by
    have y0 := (h.block N (blk_lt hx0)).trans hx0
    have y1 := (h.block (N + 1) (blk_lt hx1)).trans hx1
    have y2 := (h.block (N + 1 + 1) (blk_lt hx2)).trans hx2
    refine ⟨h, ⟨?_, ?_, ?_⟩, ⟨?_, ?_, ?_, ?_⟩, ⟨?_, ?_, ?_, ?_, ?_⟩⟩ <;> simp [World.cell?, y0, y1, y2]
  have HK := Lib.hid hkeep
  have HX0 := Lib.hid (hkeep W0 (Below.refl _ _))
  have HB0 := Lib.hid hb0
  obtain ⟨⟨a0_0, a1_0, a2_0⟩, ⟨b0_0, b1_0, b2_0, b3_0⟩, ⟨c0_0, c1_0, c2_0, c3_0, c4_0⟩⟩ := HX0.out.2
  have hpl : np ≤ 9223372036854775807 := by
    have h1 : path.length ≤ ph.cap := hu.2.2.1
    have h2 : ph.cap ≤ maxLen := hu.2.2.2.1
    unfold maxLen at h2
    omega
  clear hs hsn hb hbn hu hlg hov hva hty hmv hgood hVB hE hR hER hbv hnp hb0 hx0 hx1 hx2 hkeep
  go_enter Tryz.func6, Tryz.ntmps6
  go_upto_region 1 with fail
  rw [← hW]
  clear hW
  try simp only [← hN]
  clear hN
  go_upto_region 5 with
    (first
      | (go_loud (go_at_call 8; refine (works_any W0).mono ?_; rintro e W1 ⟨rfl, hb1⟩; have HX1 := Lib.hid (HK.out W1 (HX0.out.1.trans (hb1.mono HX0.out.1.size))); obtain ⟨⟨a0_1, a1_1, a2_1⟩, ⟨b0_1, b1_1, b2_1, b3_1⟩, ⟨c0_1, c1_1, c2_1, c3_1, c4_1⟩⟩ := HX1.out.2; clear hb1))
      | (go_loud (go_at_call 9; refine (HLG.out W1 (HB0.out.trans (HX1.out.1.mono HB0.out.size))).mono ?_; rintro e W2 ⟨⟨B1, rfl⟩, hb2⟩; have HX2 := Lib.hid (HK.out W2 (HX1.out.1.trans (hb2.mono HX1.out.1.size))); obtain ⟨⟨a0_2, a1_2, a2_2⟩, ⟨b0_2, b1_2, b2_2, b3_2⟩, ⟨c0_2, c1_2, c2_2, c3_2, c4_2⟩⟩ := HX2.out.2; clear hb2)))
  clear a0_0 a1_0 a2_0 b0_0 b1_0 b2_0 b3_0 c0_0 c1_0 c2_0 c3_0 c4_0
  clear a0_1 a1_1 a2_1 b0_1 b1_1 b2_1 b3_1 c0_1 c1_1 c2_1 c3_1 c4_1
  cases B1 with
  | true =>
    go_wp2
    go_ret
    exact ⟨rfl, HB0.out.trans (HX2.out.1.mono HB0.out.size)⟩
  | false =>
    have hov2 := HOV.out W2 (HB0.out.trans (HX2.out.1.mono HB0.out.size))
    have HOV2 := Lib.hid (show Calls Tryz.prog 10 #[.agg #[.string b.nm, .int .i64 b.params, .slice b.hl.oa b.locals.length b.hl.cap, .slice b.hb.oa b.blocks.length b.hb.cap], .int .i64 250] W2 (fun e w' => (e = .returned (.bool true) ∧ Below W2.heap.size W2 w') ∨ (e = .returned (.bool false) ∧ Below W2.heap.size W2 w')) from hov2.mono fun e w' ⟨⟨B, hB⟩, h⟩ => by
      cases B with
      | true => exact .inl ⟨hB, h⟩
      | false => exact .inr ⟨hB, h⟩)
    clear hov2
    by_cases hlp : 20 < np
    · go_wp2_with (go_loud (go_at_call 10; refine HOV2.out.mono ?_; rintro e W3 (⟨rfl, hb3⟩ | ⟨rfl, hb3⟩) <;> (have HX3 := Lib.hid (HK.out W3 (HX2.out.1.trans (hb3.mono HX2.out.1.size))); obtain ⟨⟨a0_3, a1_3, a2_3⟩, ⟨b0_3, b1_3, b2_3, b3_3⟩, ⟨c0_3, c1_3, c2_3, c3_3, c4_3⟩⟩ := HX3.out.2; clear hb3)))
      all_goals (go_ret; exact ⟨rfl, HB0.out.trans (HX3.out.1.mono HB0.out.size)⟩)
    cases VB with
    | false =>
      go_wp2_with
        (first
          | (go_loud (go_at_call 10; refine HOV2.out.mono ?_; rintro e W3 (⟨rfl, hb3⟩ | ⟨rfl, hb3⟩) <;> (have HX3 := Lib.hid (HK.out W3 (HX2.out.1.trans (hb3.mono HX2.out.1.size))); obtain ⟨⟨a0_3, a1_3, a2_3⟩, ⟨b0_3, b1_3, b2_3, b3_3⟩, ⟨c0_3, c1_3, c2_3, c3_3, c4_3⟩⟩ := HX3.out.2; clear hb3)))
          | (go_loud (go_at_call 16; refine (HVA.out W3 (HB0.out.trans (HX3.out.1.mono HB0.out.size))).mono ?_; rintro e W4 ⟨rfl, hb4⟩; have HX4 := Lib.hid (HK.out W4 (HX3.out.1.trans (hb4.mono HX3.out.1.size))); obtain ⟨⟨a0_4, a1_4, a2_4⟩, ⟨b0_4, b1_4, b2_4, b3_4⟩, ⟨c0_4, c1_4, c2_4, c3_4, c4_4⟩⟩ := HX4.out.2; clear hb4)))
      all_goals (go_ret; first | exact ⟨rfl, HB0.out.trans (HX4.out.1.mono HB0.out.size)⟩ | exact ⟨rfl, HB0.out.trans (HX3.out.1.mono HB0.out.size)⟩)
    | true =>
      go_upto_region 7 with
        (first
          | (go_loud (go_at_call 10; refine HOV2.out.mono ?_; rintro e W3 (⟨rfl, hb3⟩ | ⟨rfl, hb3⟩) <;> (have HX3 := Lib.hid (HK.out W3 (HX2.out.1.trans (hb3.mono HX2.out.1.size))); obtain ⟨⟨a0_3, a1_3, a2_3⟩, ⟨b0_3, b1_3, b2_3, b3_3⟩, ⟨c0_3, c1_3, c2_3, c3_3, c4_3⟩⟩ := HX3.out.2; clear hb3)))
          | (go_loud (go_at_call 16; refine (HVA.out W3 (HB0.out.trans (HX3.out.1.mono HB0.out.size))).mono ?_; rintro e W4 ⟨rfl, hb4⟩; have HX4 := Lib.hid (HK.out W4 (HX3.out.1.trans (hb4.mono HX3.out.1.size))); obtain ⟨⟨a0_4, a1_4, a2_4⟩, ⟨b0_4, b1_4, b2_4, b3_4⟩, ⟨c0_4, c1_4, c2_4, c3_4, c4_4⟩⟩ := HX4.out.2; clear hb4)))
      · go_ret
        exact ⟨rfl, HB0.out.trans (HX3.out.1.mono HB0.out.size)⟩
      clear a0_2 a1_2 a2_2 b0_2 b1_2 b2_2 b3_2 c0_2 c1_2 c2_2 c3_2 c4_2
      clear a0_3 a1_3 a2_3 b0_3 b1_3 b2_3 b3_3 c0_3 c1_3 c2_3 c3_3 c4_3
      have hb5 := alloc_below W4 (.cells #[.bool num, .int .i64 n, .bool mv, .int .i64 loc, .slice ph.oa np ph.cap] 42)
      have HMV2 := Lib.hid (HMV.out W4.heap.size (W4.alloc (.cells #[.bool num, .int .i64 n, .bool mv, .int .i64 loc, .slice ph.oa np ph.cap] 42)) ((HB0.out.trans (HX4.out.1.mono HB0.out.size)).trans (hb5.mono (Nat.le_trans HB0.out.size HX4.out.1.size))) (heap_alloc_new _ _))
      have HB5 := Lib.hid hb5
      clear hb5
      go_upto_region 8 with
        (first
          | (go_loud (go_at_call 14; refine HMV2.out.mono ?_; rintro e W5 ⟨hb5, ⟨⟨k1, nm1, h1, l1⟩, er1, f1, rfl, he1, hy1, ht1⟩⟩; simp only [tyV, tyC]; have H5 := Lib.hid (And.intro he1 (And.intro hy1 (TyH.und f1 _ _ _ (show Und _ W5 from ⟨by rw [eb_size]; exact Nat.le_refl _, fun p v h => (eb_cell h).2.2⟩) ht1))); have hb45 := HB5.out.trans (hb5.mono HB5.out.size); have HX5 := Lib.hid (HK.out W5 (HX4.out.1.trans (hb45.mono HX4.out.1.size))); obtain ⟨⟨a0_5, a1_5, a2_5⟩, ⟨b0_5, b1_5, b2_5, b3_5⟩, ⟨c0_5, c1_5, c2_5, c3_5, c4_5⟩⟩ := HX5.out.2; clear hb45; clear hb5 he1 hy1 ht1))
          | (go_loud (refine wpList_store_box rfl 46 (.tmp 9) (.tmp 48) rfl W5.heap.size 0 rfl (.agg #[.int .i64 k1, .string nm1, .slice h1.oa l1.length h1.cap]) rfl [.int .i64 k1, .string nm1, .slice h1.oa l1.length h1.cap] rfl [.int .i64 0, .string ⟨#[]⟩, .slice none 0 0] 46 (heap_alloc_new W5 (.cells #[.int .i64 0, .string ⟨#[]⟩, .slice none 0 0] 46)) (Nat.le_refl _) (show (Tryz.prog.info? 46).map (·.size) = some 3 by kernel_rfl) ?ca0 W5.heap.size (Nat.le_refl _) (W5.alloc (.cells #[.int .i64 0, .string ⟨#[]⟩, .slice none 0 0] 46)) (Below.refl _ _) ?_; rotate_left; intro W6 hb6 hbx1 hoth)))
      try case ca0 => first | exact ⟨rfl, rfl, rfl⟩ | (intro v hv; simp at hv; rcases hv with rfl | rfl | rfl <;> rfl)
      clear a0_4 a1_4 a2_4 b0_4 b1_4 b2_4 b3_4 c0_4 c1_4 c2_4 c3_4 c4_4
      clear a0_5 a1_5 a2_5 b0_5 b1_5 b2_5 b3_5 c0_5 c1_5 c2_5 c3_5 c4_5
      obtain ⟨M1, hM1⟩ : ∃ M, M = W5.heap.size := ⟨_, rfl⟩
      have hb56 : Below W5.heap.size W5 W6 := (alloc_below W5 (.cells #[.int .i64 0, .string ⟨#[]⟩, .slice none 0 0] 46)).trans hb6
      rw [← hM1] at hbx1
      try simp only [← hM1]
      have HM1 := Lib.hid (And.intro hbx1 hb56)
      have HX6 := Lib.hid (HK.out W6 (HX5.out.1.trans (hb56.mono HX5.out.1.size))); obtain ⟨⟨a0_6, a1_6, a2_6⟩, ⟨b0_6, b1_6, b2_6, b3_6⟩, ⟨c0_6, c1_6, c2_6, c3_6, c4_6⟩⟩ := HX6.out.2; clear hb56
      clear hb6 hbx1 hoth hM1
      go_upto_region 9 with
        (first
          | (go_loud (go_at_call 11; refine (HTY.out W6 (HB0.out.trans (HX6.out.1.mono HB0.out.size))).mono ?_; rintro e W7 ⟨hb7, ⟨⟨k2, nm2, h2, l2⟩, sh, er2, f2, rfl, ht2, hr2⟩⟩; simp only [tyV, tyC]; have H7 := Lib.hid (And.intro hr2 (And.intro (TyH.und f2 _ _ _ (show Und _ W7 from ⟨by rw [eb_size]; exact Nat.le_refl _, fun p v h => (eb_cell h).2.2⟩) ht2) hb7)); have HX7 := Lib.hid (HK.out W7 (HX6.out.1.trans (hb7.mono HX6.out.1.size))); obtain ⟨⟨a0_7, a1_7, a2_7⟩, ⟨b0_7, b1_7, b2_7, b3_7⟩, ⟨c0_7, c1_7, c2_7, c3_7, c4_7⟩⟩ := HX7.out.2; clear hb7; clear ht2 hr2))
          | (go_loud (refine wpList_store_box rfl 46 (.tmp 11) (.tmp 56) rfl W7.heap.size 0 rfl (.agg #[.int .i64 k2, .string nm2, .slice h2.oa l2.length h2.cap]) rfl [.int .i64 k2, .string nm2, .slice h2.oa l2.length h2.cap] rfl [.int .i64 0, .string ⟨#[]⟩, .slice none 0 0] 46 (heap_alloc_new W7 (.cells #[.int .i64 0, .string ⟨#[]⟩, .slice none 0 0] 46)) (Nat.le_refl _) (show (Tryz.prog.info? 46).map (·.size) = some 3 by kernel_rfl) ?ca1 W7.heap.size (Nat.le_refl _) (W7.alloc (.cells #[.int .i64 0, .string ⟨#[]⟩, .slice none 0 0] 46)) (Below.refl _ _) ?_; rotate_left; intro W8 hb8 hbx2 hoth)))
      try case ca1 => first | exact ⟨rfl, rfl, rfl⟩ | (intro v hv; simp at hv; rcases hv with rfl | rfl | rfl <;> rfl)
      clear a0_6 a1_6 a2_6 b0_6 b1_6 b2_6 b3_6 c0_6 c1_6 c2_6 c3_6 c4_6
      clear a0_7 a1_7 a2_7 b0_7 b1_7 b2_7 b3_7 c0_7 c1_7 c2_7 c3_7 c4_7
      obtain ⟨M2, hM2⟩ : ∃ M, M = W7.heap.size := ⟨_, rfl⟩
      have hb78 : Below W7.heap.size W7 W8 := (alloc_below W7 (.cells #[.int .i64 0, .string ⟨#[]⟩, .slice none 0 0] 46)).trans hb8
      rw [← hM2] at hbx2
      try simp only [← hM2]
      have hb68 : Below W6.heap.size W6 W8 := H7.out.2.2.trans (hb78.mono H7.out.2.2.size)
      have hm1 := (hb68.block M1 (blk_lt HM1.out.1)).trans HM1.out.1
      have HSM := Lib.hid (rSameTy_any (max f1 f2) (.mk k1 nm1 h1 l1) (.mk k2 nm2 h2 l2) W8 (TyH.below _ (TyH.le (Nat.le_max_left _ _) H5.out.2.2) (HM1.out.2.trans (hb68.mono HM1.out.2.size))) (TyH.below _ (TyH.le (Nat.le_max_right _ _) H7.out.2.1) hb78))
      have HX8 := Lib.hid (HK.out W8 (HX7.out.1.trans (hb78.mono HX7.out.1.size))); obtain ⟨⟨a0_8, a1_8, a2_8⟩, ⟨b0_8, b1_8, b2_8, b3_8⟩, ⟨c0_8, c1_8, c2_8, c3_8, c4_8⟩⟩ := HX8.out.2; clear hb78
      obtain ⟨m0, m1, m2, mf, ml⟩ := cells3p hm1
      obtain ⟨o0, o1, o2, of, ol⟩ := cells3p hbx2
      clear hb8 hbx2 hoth hM2 hb68 hm1
      have HF := Lib.hid (HB0.out.trans (HX8.out.1.mono HB0.out.size))
      simp only [tyV, tyC] at HSM
      clear hpl hlp
      cases num with
      | true => as_aux_lemma =>
        clear HSM
        cases mv with
        | true =>
          have hE : E = none := by
            have h := HER.out
            rw [if_pos rfl] at h
            first | exact h | (rw [if_pos (by first | rfl | simp [*])] at h; exact h) | (rw [if_neg (by first | decide | simp [*])] at h; exact h)
          have he : er1 = 84 := by
            have h := H5.out.1
            rw [hE] at h
            exact h
          subst he
          clear hE
          go_wp2
          go_ret
          exact ⟨by first | done | rfl, HF.out⟩
        | false =>
          by_cases hl0 : loc = 0
          · subst hl0
            by_cases hn0 : np = 0
            · subst hn0
              have hE : E = some (.mk 1 nil5 h0 []) := by
                have h := HER.out
                rw [if_pos rfl] at h
                first | exact h | (rw [if_pos (by first | rfl | simp [*])] at h; exact h) | (rw [if_neg (by first | decide | simp [*])] at h; exact h)
              have he : er1 = 0 := by
                have h := H5.out.1
                rw [hE] at h
                exact h
              subst he
              clear hE
              go_wp2
              go_ret
              exact ⟨by first | done | rfl, HF.out⟩
            · have t0 : ((np : Int) == 0) = false := by simp; omega
              have hE : E = none := by
                have h := HER.out
                rw [if_pos rfl] at h
                first | exact h | (rw [if_pos (by first | rfl | simp [*])] at h; exact h) | (rw [if_neg (by first | decide | simp [*])] at h; exact h)
              have he : er1 = 84 := by
                have h := H5.out.1
                rw [hE] at h
                exact h
              subst he
              clear hE
              go_wp2
              go_ret
              exact ⟨by first | done | rfl, HF.out⟩
          · have t0 : (loc == 0) = false := by simpa using hl0
            have hE : E = none := by
              have h := HER.out
              rw [if_pos rfl] at h
              first | exact h | (rw [if_pos (by first | rfl | simp [*])] at h; exact h) | (rw [if_neg (by first | decide | simp [*])] at h; exact h)
            have he : er1 = 84 := by
              have h := H5.out.1
              rw [hE] at h
              exact h
            subst he
            clear hE
            go_wp2
            go_ret
            exact ⟨by first | done | rfl, HF.out⟩
      | false => as_aux_lemma =>
        cases R with
        | none =>
          have h7 := H7.out.1
          obtain ⟨-, -, rfl⟩ := h7
          clear HSM
          have hE : E = none := by
            have h := HER.out
            rw [if_neg (by decide)] at h
            exact h
          have he : er1 = 84 := by
            have h := H5.out.1
            rw [hE] at h
            exact h
          subst he
          clear hE
          go_wp2
          go_ret
          exact ⟨by first | done | rfl, HF.out⟩
        | some r =>
          have h7 := H7.out.1
          obtain ⟨hyr, -, rfl⟩ := h7
          have hk2 : kdT r.1 = k2 := by rw [← hyr, kdT_er]; rfl
          have hk0 : k2 ≠ 0 := by rw [← hk2]; exact HGD.out (by first | trivial | rfl) r rfl
          have e00 : (k2 == 0) = false := by simpa using hk0
          have hcpp : copiesT r.1 = (k2 == 1 || k2 == 5) := by
            have h : copiesT r.1 = (kdT r.1 == 0 || (kdT r.1 == 1 || kdT r.1 == 5)) := by cases r.1; rfl
            rw [h, hk2, e00]
            rfl
          have HYR := Lib.hid (And.intro hyr hcpp)
          clear hyr hk2 hk0 e00 hcpp
          by_cases h1 : k2 = 1
          · subst h1
            have hcp : copiesT r.1 = true := by rw [HYR.out.2]; rfl
            by_cases hn0 : n = 0
            · subst hn0
              cases mv with
              | true =>
                have hE : E = none := by
                  have h := HER.out
                  rw [if_neg (by decide)] at h
                  unfold useO at h
                  dsimp only at h
                  rw [hcp] at h
                  rw [if_pos (Or.inr (Or.inl rfl))] at h
                  exact h
                have he : er1 = 84 := by
                  have h := H5.out.1
                  rw [hE] at h
                  exact h
                obtain ⟨SB, hSB⟩ : ∃ B, tyEq (.mk k1 nm1 h1 l1) (.mk 1 nm2 h2 l2) = B := ⟨_, rfl⟩
                rw [hSB] at HSM
                clear hSB
                subst he
                clear hE hcp
                go_wp2_with (go_loud (go_at_call 13; refine HSM.out.mono ?_; rintro e W9 ⟨rfl, hb9⟩; have HB9 := Lib.hid hb9; clear hb9))
                go_ret
                exact ⟨by first | done | rfl, HF.out.trans (HB9.out.mono HF.out.size)⟩
              | false =>
                have hE : E = some r.1 := by
                  have h := HER.out
                  rw [if_neg (by decide)] at h
                  unfold useO at h
                  dsimp only at h
                  rw [hcp] at h
                  rw [if_neg (by rintro (h9 | h9 | h9)
                                 · exact absurd rfl h9
                                 · cases h9
                                 · cases h9.1)] at h
                  exact h
                have he : er1 = 0 := by
                  have h := H5.out.1
                  rw [hE] at h
                  exact h
                have hsm : tyEq (.mk k1 nm1 h1 l1) (.mk 1 nm2 h2 l2) = true := by
                  have h1' := H5.out.2.1
                  rw [hE] at h1'
                  rw [← tyEq_er, show erTy (.mk k1 nm1 h1 l1) = r.1 from h1', HYR.out.1]
                  exact tyEq_rf _
                rw [hsm] at HSM
                clear hsm
                subst he
                clear hE hcp
                go_wp2_with (go_loud (go_at_call 13; refine HSM.out.mono ?_; rintro e W9 ⟨rfl, hb9⟩; have HB9 := Lib.hid hb9; clear hb9))
                go_ret
                exact ⟨by first | done | rfl, HF.out.trans (HB9.out.mono HF.out.size)⟩
            · have t0 : (n == 0) = false := by simpa using hn0
              have hE : E = none := by
                have h := HER.out
                rw [if_neg (by decide)] at h
                unfold useO at h
                dsimp only at h
                rw [hcp] at h
                rw [if_pos (Or.inl hn0)] at h
                exact h
              clear hn0
              have he : er1 = 84 := by
                have h := H5.out.1
                rw [hE] at h
                exact h
              obtain ⟨SB, hSB⟩ : ∃ B, tyEq (.mk k1 nm1 h1 l1) (.mk 1 nm2 h2 l2) = B := ⟨_, rfl⟩
              rw [hSB] at HSM
              clear hSB
              subst he
              clear hE hcp
              go_wp2_with (go_loud (go_at_call 13; refine HSM.out.mono ?_; rintro e W9 ⟨rfl, hb9⟩; have HB9 := Lib.hid hb9; clear hb9))
              go_ret
              exact ⟨by first | done | rfl, HF.out.trans (HB9.out.mono HF.out.size)⟩
          have e1 : (k2 == 1) = false := by simpa using h1
          clear h1
          by_cases h5 : k2 = 5
          · subst h5
            have hcp : copiesT r.1 = true := by rw [HYR.out.2]; rfl
            by_cases hn0 : n = 0
            · subst hn0
              cases mv with
              | true =>
                have hE : E = none := by
                  have h := HER.out
                  rw [if_neg (by decide)] at h
                  unfold useO at h
                  dsimp only at h
                  rw [hcp] at h
                  rw [if_pos (Or.inr (Or.inl rfl))] at h
                  exact h
                have he : er1 = 84 := by
                  have h := H5.out.1
                  rw [hE] at h
                  exact h
                obtain ⟨SB, hSB⟩ : ∃ B, tyEq (.mk k1 nm1 h1 l1) (.mk 5 nm2 h2 l2) = B := ⟨_, rfl⟩
                rw [hSB] at HSM
                clear hSB
                subst he
                clear hE hcp
                go_wp2_with (go_loud (go_at_call 13; refine HSM.out.mono ?_; rintro e W9 ⟨rfl, hb9⟩; have HB9 := Lib.hid hb9; clear hb9))
                go_ret
                exact ⟨by first | done | rfl, HF.out.trans (HB9.out.mono HF.out.size)⟩
              | false =>
                have hE : E = some r.1 := by
                  have h := HER.out
                  rw [if_neg (by decide)] at h
                  unfold useO at h
                  dsimp only at h
                  rw [hcp] at h
                  rw [if_neg (by rintro (h9 | h9 | h9)
                                 · exact absurd rfl h9
                                 · cases h9
                                 · cases h9.1)] at h
                  exact h
                have he : er1 = 0 := by
                  have h := H5.out.1
                  rw [hE] at h
                  exact h
                have hsm : tyEq (.mk k1 nm1 h1 l1) (.mk 5 nm2 h2 l2) = true := by
                  have h1' := H5.out.2.1
                  rw [hE] at h1'
                  rw [← tyEq_er, show erTy (.mk k1 nm1 h1 l1) = r.1 from h1', HYR.out.1]
                  exact tyEq_rf _
                rw [hsm] at HSM
                clear hsm
                subst he
                clear hE hcp
                go_wp2_with (go_loud (go_at_call 13; refine HSM.out.mono ?_; rintro e W9 ⟨rfl, hb9⟩; have HB9 := Lib.hid hb9; clear hb9))
                go_ret
                exact ⟨by first | done | rfl, HF.out.trans (HB9.out.mono HF.out.size)⟩
            · have t0 : (n == 0) = false := by simpa using hn0
              have hE : E = none := by
                have h := HER.out
                rw [if_neg (by decide)] at h
                unfold useO at h
                dsimp only at h
                rw [hcp] at h
                rw [if_pos (Or.inl hn0)] at h
                exact h
              clear hn0
              have he : er1 = 84 := by
                have h := H5.out.1
                rw [hE] at h
                exact h
              obtain ⟨SB, hSB⟩ : ∃ B, tyEq (.mk k1 nm1 h1 l1) (.mk 5 nm2 h2 l2) = B := ⟨_, rfl⟩
              rw [hSB] at HSM
              clear hSB
              subst he
              clear hE hcp
              go_wp2_with (go_loud (go_at_call 13; refine HSM.out.mono ?_; rintro e W9 ⟨rfl, hb9⟩; have HB9 := Lib.hid hb9; clear hb9))
              go_ret
              exact ⟨by first | done | rfl, HF.out.trans (HB9.out.mono HF.out.size)⟩
          have e5 : (k2 == 5) = false := by simpa using h5
          clear h5
          have hcp : copiesT r.1 = false := by rw [HYR.out.2, e1, e5]; rfl
          by_cases hn0 : n = 0
          · subst hn0
            cases mv with
            | true =>
              by_cases hp0 : np = 0
              · subst hp0
                have hE : E = some r.1 := by
                  have h := HER.out
                  rw [if_neg (by decide)] at h
                  unfold useO at h
                  dsimp only at h
                  rw [hcp] at h
                  rw [if_neg (by rintro (h9 | h9 | h9)
                                 · exact absurd rfl h9
                                 · cases h9
                                 · exact absurd h9.2 (by decide))] at h
                  exact h
                have he : er1 = 0 := by
                  have h := H5.out.1
                  rw [hE] at h
                  exact h
                have hsm : tyEq (.mk k1 nm1 h1 l1) (.mk k2 nm2 h2 l2) = true := by
                  have h1' := H5.out.2.1
                  rw [hE] at h1'
                  rw [← tyEq_er, show erTy (.mk k1 nm1 h1 l1) = r.1 from h1', HYR.out.1]
                  exact tyEq_rf _
                rw [hsm] at HSM
                clear hsm
                subst he
                clear hE hcp
                go_wp2_with (go_loud (go_at_call 13; refine HSM.out.mono ?_; rintro e W9 ⟨rfl, hb9⟩; have HB9 := Lib.hid hb9; clear hb9))
                go_ret
                exact ⟨by first | done | rfl, HF.out.trans (HB9.out.mono HF.out.size)⟩
              · have t0 : ((np : Int) == 0) = false := by simp; omega
                have hE : E = none := by
                  have h := HER.out
                  rw [if_neg (by decide)] at h
                  unfold useO at h
                  dsimp only at h
                  rw [hcp] at h
                  rw [if_pos (Or.inr (Or.inr ⟨rfl, by omega⟩))] at h
                  exact h
                have he : er1 = 84 := by
                  have h := H5.out.1
                  rw [hE] at h
                  exact h
                obtain ⟨SB, hSB⟩ : ∃ B, tyEq (.mk k1 nm1 h1 l1) (.mk k2 nm2 h2 l2) = B := ⟨_, rfl⟩
                rw [hSB] at HSM
                clear hSB
                subst he
                clear hE hcp
                go_wp2_with (go_loud (go_at_call 13; refine HSM.out.mono ?_; rintro e W9 ⟨rfl, hb9⟩; have HB9 := Lib.hid hb9; clear hb9))
                go_ret
                exact ⟨by first | done | rfl, HF.out.trans (HB9.out.mono HF.out.size)⟩
            | false =>
              have hE : E = none := by
                have h := HER.out
                rw [if_neg (by decide)] at h
                unfold useO at h
                dsimp only at h
                rw [hcp] at h
                rw [if_pos (Or.inr (Or.inl rfl))] at h
                exact h
              have he : er1 = 84 := by
                have h := H5.out.1
                rw [hE] at h
                exact h
              obtain ⟨SB, hSB⟩ : ∃ B, tyEq (.mk k1 nm1 h1 l1) (.mk k2 nm2 h2 l2) = B := ⟨_, rfl⟩
              rw [hSB] at HSM
              clear hSB
              subst he
              clear hE hcp
              go_wp2_with (go_loud (go_at_call 13; refine HSM.out.mono ?_; rintro e W9 ⟨rfl, hb9⟩; have HB9 := Lib.hid hb9; clear hb9))
              go_ret
              exact ⟨by first | done | rfl, HF.out.trans (HB9.out.mono HF.out.size)⟩
          · have t0 : (n == 0) = false := by simpa using hn0
            have hE : E = none := by
              have h := HER.out
              rw [if_neg (by decide)] at h
              unfold useO at h
              dsimp only at h
              rw [hcp] at h
              rw [if_pos (Or.inl hn0)] at h
              exact h
            clear hn0
            have he : er1 = 84 := by
              have h := H5.out.1
              rw [hE] at h
              exact h
            obtain ⟨SB, hSB⟩ : ∃ B, tyEq (.mk k1 nm1 h1 l1) (.mk k2 nm2 h2 l2) = B := ⟨_, rfl⟩
            rw [hSB] at HSM
            clear hSB
            subst he
            clear hE hcp
            go_wp2_with (go_loud (go_at_call 13; refine HSM.out.mono ?_; rintro e W9 ⟨rfl, hb9⟩; have HB9 := Lib.hid hb9; clear hb9))
            go_ret
            exact ⟨by first | done | rfl, HF.out.trans (HB9.out.mono HF.out.size)⟩
end Go.Proofs.YtmcjeicdjneinaaGreatDoor
