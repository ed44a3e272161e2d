/-
  MirSteps answers true. Conditions: the source, the body and the spot lie in the heap; no declared type is too large.
-/
import Derived.Test.YtghkbihgdabamaaGreatDoorJQStP
import Derived.Test.YtghkbihgdabamaaGreatDoorJQUsP
import Derived.Test.YtghkbihgdabamaaGreatDoorJQOver
import Derived.Test.YtghkbihgdabamaaGreatDoorJQWorks
import Derived.Test.YtghkbihgdabamaaGreatDoorJQSameTy
import Derived.Deep.RegionHeld3
import Derived.Deep.DeepCutAuto
namespace Go.Proofs.YtghkbihgdabamaaGreatDoor
open Go.RowKit

theorem own_below {w w' : World} {B e sz n : Nat} {v : Value} {xs : List Value} (h : w.ownsRow B e sz v n xs) (hb : Below w.heap.size w w') : w'.ownsRow B e sz v n xs := own_keep h fun b hb' => hb.block b (own_lt h hb').2
theorem alloc2_new (w : World) (a b : Obj) : ((w.alloc a).alloc b).heap[w.heap.size + 1]? = some b := by
  have h := heap_alloc_new (w.alloc a) b
  simpa using h
theorem alloc2_old (w : World) (a b : Obj) : ((w.alloc a).alloc b).heap[w.heap.size]? = some a := (Below.heap_alloc _ _ _ (by simp)).trans (heap_alloc_new _ _)
theorem own_row {w : World} {B e g cap n : Nat} {xs : List Int} {ys : List Value} (ho : w.ownsRow B e 1 (.slice (some ⟨g, 0, none⟩) n cap) n ys) (hy : ys = xs.flatMap intC) (hn : xs.length = n) (hq : ∀ x ∈ xs, I64 x) : Row w ⟨some ⟨g, 0, none⟩, cap⟩ 1 xs intC I64 := by
  subst hy hn
  obtain ⟨⟨oa, c⟩, h1, h2⟩ := row_of_own ho intC_len hq
  simp only [Value.slice.injEq] at h1
  obtain ⟨rfl, -, rfl⟩ := h1
  exact h2
theorem set3 {W : World} {G : Nat} {z0 z1 z2 v0 v1 v2 : Value} {t : TypeId} (h : W.heap[G]? = some (.cells #[z0, z1, z2] t)) : (((W.setCell ⟨G, 0, none⟩ v0).setCell ⟨G, 1, none⟩ v1).setCell ⟨G, 2, none⟩ v2).heap[G]? = some (.cells #[v0, v1, v2] t) := by
  have h1 := heap_setCell_same W G 0 _ _ v0 h
  have h2 := heap_setCell_same _ G 1 _ _ v1 h1
  have h3 := heap_setCell_same _ G 2 _ _ v2 h2
  simpa using h3
theorem tyH_set3 {W : World} {G B f : Nat} {y : Ty5} {v0 v1 v2 : Value} (h : TyH f (eb W B none) y) (hG : G < B) : TyH f (((W.setCell ⟨G, 0, none⟩ v0).setCell ⟨G, 1, none⟩ v1).setCell ⟨G, 2, none⟩ v2) y :=
  TyH.und f _ _ _ ⟨by rw [eb_size]; simp [World.setCell], fun p v hv => by
    obtain ⟨h1, -, h2⟩ := eb_cell hv
    have hne : p.block ≠ G := by omega
    exact (World.cell?_of_block (by rw [Below.heap_setCell _ _ _ _ hne, Below.heap_setCell _ _ _ _ hne, Below.heap_setCell _ _ _ _ hne])).trans h2⟩ h
theorem infoI_int : (Tryz.prog.info? 3).map (fun i => (i.zero, i.size, i.bytes)) = some (some (.int .i64 0), 1, 8) := by kernel_rfl
set_option maxRecDepth 100000 in
set_option maxHeartbeats 40000000 in
theorem mirSteps_walk (d : Nat) (s : So5) (b : Bo) (x : Sp) (z : Int) (w : World) (hs : SoH d w s) (hsn : SoN s) (hb : BoH d w b) (hbn : BoN b) (hx : SpH w x) (hz64 : I64 z) :
    Calls Tryz.prog 7 #[soV s, boV b, spV x, .int .i64 z] w fun e w' => e = .returned (.bool true) ∧ Below w.heap.size w w' := by
  have hbv : boV b = .agg #[.string b.nm, .int .i64 b.params, .slice b.hl.oa b.locals.length b.hl.cap, .slice b.hb.oa b.blocks.length b.hb.cap] := by cases b; rfl
  have hlg := fun W (h : Below w.heap.size w W) => large_any d s 250 W (SoH.below hs h)
  have hov := fun W (h : Below w.heap.size w W) => over_any d b 250 W (BoH.below hb h)
  have hva := fun W (h : Below w.heap.size w W) => valid_any d s b W (SoH.below hs h) hsn (BoH.below hb h) hbn
  have hty := fun W (h : Below w.heap.size w W) => type_any d s b x W (SoH.below hs h) hsn (BoH.below hb h) hbn (SpH.below hx h)
  have hty2 := fun (h : Hd) W (hB : Below w.heap.size w W) (hr : Row W h 1 (x.path ++ [z]) intC I64) => type_any d s b ⟨x.loc, h, x.path ++ [z]⟩ W (SoH.below hs hB) hsn (BoH.below hb hB) hbn ⟨hx.1, hr⟩
  have hrow := fun W (h : Below w.heap.size w W) => (SpH.below hx h).2
  obtain ⟨VB, hVB⟩ : ∃ B, validB s d b = B := ⟨_, rfl⟩
  obtain ⟨R, hR⟩ : ∃ B, spotR s d b x = B := ⟨_, rfl⟩
  have hsn2 : ∀ h, spotR s d b ⟨x.loc, h, x.path ++ [z]⟩ = stR s d R z := fun h => by rw [← hR]; exact spotR_snoc s d b x.loc z h x.h x.path
  simp only [hsn2] at hty2
  clear hsn2
  simp only [hVB] at hva
  simp only [hR] at hty
  obtain ⟨loc, ph, path⟩ := x
  dsimp only at hty2 hrow
  obtain ⟨np, hnp⟩ : ∃ k, path.length = k := ⟨_, rfl⟩
  rw [soV_hd] at hlg hva hty hty2 ⊢
  rw [hbv] at hov hva hty hty2 ⊢
  simp only [spV, spC, hnp] at hty ⊢
  simp only [spV, spC, List.length_append, List.length_singleton, hnp] at hty2
  have HLG := Lib.hid hlg
  have HOV := Lib.hid hov
  have HVA := Lib.hid hva
  have HTY := Lib.hid hty
  have HTZ := Lib.hid hty2
  have HRW := Lib.hid hrow
  have HNP := Lib.hid hnp
  have HZ64 := Lib.hid hz64
  obtain ⟨W0, hW⟩ : ∃ W, W = ((w.alloc (.cells #[.slice s.hs.oa s.structs.length s.hs.cap, .slice s.he.oa s.enums.length s.he.cap, .slice s.hf.oa s.fns.length s.hf.cap] 26)).alloc (.cells #[.string b.nm, .int .i64 b.params, .slice b.hl.oa b.locals.length b.hl.cap, .slice b.hb.oa b.blocks.length b.hb.cap] 30)).alloc (.cells #[.int .i64 loc, .slice ph.oa np ph.cap] 33) := ⟨_, rfl⟩
  obtain ⟨hb0, hx0, hx1, hx2⟩ := pal3 w (.cells #[.slice s.hs.oa s.structs.length s.hs.cap, .slice s.he.oa s.enums.length s.he.cap, .slice s.hf.oa s.fns.length s.hf.cap] 26) (.cells #[.string b.nm, .int .i64 b.params, .slice b.hl.oa b.locals.length b.hl.cap, .slice b.hb.oa b.blocks.length b.hb.cap] 30) (.cells #[.int .i64 loc, .slice ph.oa np ph.cap] 33)
  rw [← hW] at hb0 hx0 hx1 hx2
  obtain ⟨N, hN⟩ : ∃ N, N = w.heap.size := ⟨_, rfl⟩
  rw [← hN] at hx0 hx1 hx2
  have hkeep : ∀ W, Below W0.heap.size W0 W → Below W0.heap.size W0 W ∧ (W.cell? ⟨N, 0, none⟩ = some (.slice s.hs.oa s.structs.length s.hs.cap) ∧ W.cell? ⟨N, 1, none⟩ = some (.slice s.he.oa s.enums.length s.he.cap) ∧ W.cell? ⟨N, 2, none⟩ = some (.slice s.hf.oa s.fns.length s.hf.cap)) ∧ (W.cell? ⟨N + 1, 0, none⟩ = some (.string b.nm) ∧ W.cell? ⟨N + 1, 1, none⟩ = some (.int .i64 b.params) ∧ W.cell? ⟨N + 1, 2, none⟩ = some (.slice b.hl.oa b.locals.length b.hl.cap) ∧ W.cell? ⟨N + 1, 3, none⟩ = some (.slice b.hb.oa b.blocks.length b.hb.cap)) ∧ (W.cell? ⟨N + 1 + 1, 0, none⟩ = some (.int .i64 loc) ∧ W.cell? ⟨N + 1 + 1, 1, none⟩ = some (.slice ph.oa np ph.cap)) := fun W h => by
    have y0 := (h.block N (blk_lt hx0)).trans hx0
    have y1 := (h.block (N + 1) (blk_lt hx1)).trans hx1
    have y2 := (h.block (N + 1 + 1) (blk_lt hx2)).trans hx2
    refine ⟨h, ⟨?_, ?_, ?_⟩, ⟨?_, ?_, ?_, ?_⟩, ⟨?_, ?_⟩⟩ <;> simp [World.cell?, y0, y1, y2]
  have HK := Lib.hid hkeep
  have HX0 := Lib.hid (hkeep W0 (Below.refl _ _))
  have HB0 := Lib.hid hb0
  obtain ⟨⟨a0_0, a1_0, a2_0⟩, ⟨b0_0, b1_0, b2_0, b3_0⟩, ⟨c0_0, c1_0⟩⟩ := HX0.out.2
  have hpl : np ≤ 9223372036854775807 := by
    have h1 : path.length ≤ ph.cap := hx.2.1
    have h2 : ph.cap ≤ maxLen := hx.2.2.1
    unfold maxLen at h2
    omega
  clear hs hsn hb hbn hx hlg hov hva hty hty2 hrow hVB hR hbv hnp hb0 hx0 hx1 hx2 hkeep hz64
  go_enter Tryz.func7, Tryz.ntmps7
  go_upto_region 1 with fail
  rw [← hW]
  clear hW
  try simp only [← hN]
  clear hN
  go_upto_region 5 with
    (first
      | (go_loud (go_at_call 8; refine (works_any W0).mono ?_; rintro e W1 ⟨rfl, hb1⟩; have HX1 := Lib.hid (HK.out W1 (HX0.out.1.trans (hb1.mono HX0.out.1.size))); obtain ⟨⟨a0_1, a1_1, a2_1⟩, ⟨b0_1, b1_1, b2_1, b3_1⟩, ⟨c0_1, c1_1⟩⟩ := HX1.out.2; clear hb1))
      | (go_loud (go_at_call 9; refine (HLG.out W1 (HB0.out.trans (HX1.out.1.mono HB0.out.size))).mono ?_; rintro e W2 ⟨⟨B1, rfl⟩, hb2⟩; have HX2 := Lib.hid (HK.out W2 (HX1.out.1.trans (hb2.mono HX1.out.1.size))); obtain ⟨⟨a0_2, a1_2, a2_2⟩, ⟨b0_2, b1_2, b2_2, b3_2⟩, ⟨c0_2, c1_2⟩⟩ := HX2.out.2; clear hb2)))
  clear a0_0 a1_0 a2_0 b0_0 b1_0 b2_0 b3_0 c0_0 c1_0
  clear a0_1 a1_1 a2_1 b0_1 b1_1 b2_1 b3_1 c0_1 c1_1
  cases B1 with
  | true =>
    go_wp2
    go_ret
    exact ⟨rfl, HB0.out.trans (HX2.out.1.mono HB0.out.size)⟩
  | false =>
    have hov2 := HOV.out W2 (HB0.out.trans (HX2.out.1.mono HB0.out.size))
    have HOV2 := Lib.hid (show Calls Tryz.prog 10 #[.agg #[.string b.nm, .int .i64 b.params, .slice b.hl.oa b.locals.length b.hl.cap, .slice b.hb.oa b.blocks.length b.hb.cap], .int .i64 250] W2 (fun e w' => (e = .returned (.bool true) ∧ Below W2.heap.size W2 w') ∨ (e = .returned (.bool false) ∧ Below W2.heap.size W2 w')) from hov2.mono fun e w' ⟨⟨B, hB⟩, h⟩ => by
      cases B with
      | true => exact .inl ⟨hB, h⟩
      | false => exact .inr ⟨hB, h⟩)
    clear hov2
    by_cases hlp : 20 < np
    · go_wp2_with (go_loud (go_at_call 10; refine HOV2.out.mono ?_; rintro e W3 (⟨rfl, hb3⟩ | ⟨rfl, hb3⟩) <;> (have HX3 := Lib.hid (HK.out W3 (HX2.out.1.trans (hb3.mono HX2.out.1.size))); obtain ⟨⟨a0_3, a1_3, a2_3⟩, ⟨b0_3, b1_3, b2_3, b3_3⟩, ⟨c0_3, c1_3⟩⟩ := HX3.out.2; clear hb3)))
      all_goals (go_ret; exact ⟨rfl, HB0.out.trans (HX3.out.1.mono HB0.out.size)⟩)
    cases VB with
    | false =>
      go_wp2_with
        (first
          | (go_loud (go_at_call 10; refine HOV2.out.mono ?_; rintro e W3 (⟨rfl, hb3⟩ | ⟨rfl, hb3⟩) <;> (have HX3 := Lib.hid (HK.out W3 (HX2.out.1.trans (hb3.mono HX2.out.1.size))); obtain ⟨⟨a0_3, a1_3, a2_3⟩, ⟨b0_3, b1_3, b2_3, b3_3⟩, ⟨c0_3, c1_3⟩⟩ := HX3.out.2; clear hb3)))
          | (go_loud (go_at_call 16; refine (HVA.out W3 (HB0.out.trans (HX3.out.1.mono HB0.out.size))).mono ?_; rintro e W4 ⟨rfl, hb4⟩; have HX4 := Lib.hid (HK.out W4 (HX3.out.1.trans (hb4.mono HX3.out.1.size))); obtain ⟨⟨a0_4, a1_4, a2_4⟩, ⟨b0_4, b1_4, b2_4, b3_4⟩, ⟨c0_4, c1_4⟩⟩ := HX4.out.2; clear hb4)))
      all_goals (go_ret; first | exact ⟨rfl, HB0.out.trans (HX4.out.1.mono HB0.out.size)⟩ | exact ⟨rfl, HB0.out.trans (HX3.out.1.mono HB0.out.size)⟩)
    | true =>
      go_upto_region 7 with
        (first
          | (go_loud (go_at_call 10; refine HOV2.out.mono ?_; rintro e W3 (⟨rfl, hb3⟩ | ⟨rfl, hb3⟩) <;> (have HX3 := Lib.hid (HK.out W3 (HX2.out.1.trans (hb3.mono HX2.out.1.size))); obtain ⟨⟨a0_3, a1_3, a2_3⟩, ⟨b0_3, b1_3, b2_3, b3_3⟩, ⟨c0_3, c1_3⟩⟩ := HX3.out.2; clear hb3)))
          | (go_loud (go_at_call 16; refine (HVA.out W3 (HB0.out.trans (HX3.out.1.mono HB0.out.size))).mono ?_; rintro e W4 ⟨rfl, hb4⟩; have HX4 := Lib.hid (HK.out W4 (HX3.out.1.trans (hb4.mono HX3.out.1.size))); obtain ⟨⟨a0_4, a1_4, a2_4⟩, ⟨b0_4, b1_4, b2_4, b3_4⟩, ⟨c0_4, c1_4⟩⟩ := HX4.out.2; clear hb4)))
      · go_ret
        exact ⟨rfl, HB0.out.trans (HX3.out.1.mono HB0.out.size)⟩
      clear a0_2 a1_2 a2_2 b0_2 b1_2 b2_2 b3_2 c0_2 c1_2
      clear a0_3 a1_3 a2_3 b0_3 b1_3 b2_3 b3_3 c0_3 c1_3
      go_upto_region 8 with
        (first
          | (go_loud (go_at_call 11; refine (HTY.out W4 (HB0.out.trans (HX4.out.1.mono HB0.out.size))).mono ?_; rintro e W5 ⟨hb5, ⟨⟨k1, nm1, h1, l1⟩, m, er1, f1, rfl, ht1, hr1⟩⟩; simp only [tyV, tyC]; have H5 := Lib.hid (And.intro hr1 (TyH.und f1 _ _ _ (show Und _ W5 from ⟨by rw [eb_size]; exact Nat.le_refl _, fun p v h => (eb_cell h).2.2⟩) ht1)); have HX5 := Lib.hid (HK.out W5 (HX4.out.1.trans (hb5.mono HX4.out.1.size))); obtain ⟨⟨a0_5, a1_5, a2_5⟩, ⟨b0_5, b1_5, b2_5, b3_5⟩, ⟨c0_5, c1_5⟩⟩ := HX5.out.2; clear hb5; clear ht1 hr1))
          | (go_loud (refine wpList_store_box rfl 46 (.tmp 11) (.tmp 47) rfl W5.heap.size 0 rfl (.agg #[.int .i64 k1, .string nm1, .slice h1.oa l1.length h1.cap]) rfl [.int .i64 k1, .string nm1, .slice h1.oa l1.length h1.cap] rfl [.int .i64 0, .string ⟨#[]⟩, .slice none 0 0] 46 (heap_alloc_new W5 (.cells #[.int .i64 0, .string ⟨#[]⟩, .slice none 0 0] 46)) (Nat.le_refl _) (show (Tryz.prog.info? 46).map (·.size) = some 3 by kernel_rfl) ?ca0 W5.heap.size (Nat.le_refl _) (W5.alloc (.cells #[.int .i64 0, .string ⟨#[]⟩, .slice none 0 0] 46)) (Below.refl _ _) ?_; rotate_left; intro W6 hb6 hbx1 hoth)))
      try case ca0 => first | exact ⟨rfl, rfl, rfl⟩ | (intro v hv; simp at hv; rcases hv with rfl | rfl | rfl <;> rfl)
      clear a0_4 a1_4 a2_4 b0_4 b1_4 b2_4 b3_4 c0_4 c1_4
      clear a0_5 a1_5 a2_5 b0_5 b1_5 b2_5 b3_5 c0_5 c1_5
      obtain ⟨M1, hM1⟩ : ∃ M, M = W5.heap.size := ⟨_, rfl⟩
      have hb56 : Below W5.heap.size W5 W6 := (alloc_below W5 (.cells #[.int .i64 0, .string ⟨#[]⟩, .slice none 0 0] 46)).trans hb6
      rw [← hM1] at hbx1
      try simp only [← hM1]
      have HM1 := Lib.hid (And.intro hbx1 hb56)
      have HX6 := Lib.hid (HK.out W6 (HX5.out.1.trans (hb56.mono HX5.out.1.size))); obtain ⟨⟨a0_6, a1_6, a2_6⟩, ⟨b0_6, b1_6, b2_6, b3_6⟩, ⟨c0_6, c1_6⟩⟩ := HX6.out.2; clear hb56
      clear hb6 hbx1 hoth hM1
      have HY := Lib.hid (And.intro H5.out.1 (TyH.below f1 H5.out.2 HM1.out.2))
      obtain ⟨iI, hi1, hi2, hi3, hi4⟩ := info_parts infoI_int
      have HI := Lib.hid (And.intro hi1 (And.intro hi2 (And.intro hi3 hi4)))
      have HLP := Lib.hid hlp
      have HPL := Lib.hid hpl
      clear hi1 hi2 hi3 hi4 hlp hpl
      go_upto_region 10 with (at_builtin; go_loud (refine wpList_append_row rfl (.tmp 50) (.tmp 52) 31 rfl W6.heap.size 3 iI _ 1 8 Tryz.underlying31 HI.out.1 HI.out.2.1 HI.out.2.2.1 HI.out.2.2.2 rfl (by decide) (.slice none 0 0) 0 (([] : List Int).flatMap intC) rfl ?o1 (h := ph) (l := path) ph.oa np ph.cap np rfl rfl HNP.out (Nat.zero_add _) (HRW.out W6 (HB0.out.trans (HX6.out.1.mono HB0.out.size))) intC_len intC_one ?o3 ?o4 ?o5 ?_; rotate_left 4; intro p14 q14 W7 hown hg hv))
      case o1 => exact ⟨rfl, .inl ⟨rfl, rfl⟩⟩
      case o3 => have := HLP.out; unfold maxLen; omega
      case o4 => have := HLP.out; omega
      case o5 => exact Nat.le_refl _
      have hb7 : Below W6.heap.size W6 W7 := (Below.refl _ _).grown hg (Nat.le_refl _) (fun k h => by cases h)
      have HO7 := Lib.hid (And.intro hown hb7)
      have HX7 := Lib.hid (HK.out W7 (HX6.out.1.trans (hb7.mono HX6.out.1.size))); obtain ⟨⟨a0_7, a1_7, a2_7⟩, ⟨b0_7, b1_7, b2_7, b3_7⟩, ⟨c0_7, c1_7⟩⟩ := HX7.out.2; clear hb7
      clear a0_6 a1_6 a2_6 b0_6 b1_6 b2_6 b3_6 c0_6 c1_6
      clear hown hg hv
      have h67 : W6.heap.size ≤ W7.heap.size := HO7.out.2.size
      have HPZ := Lib.hid (show ∀ y ∈ path ++ [z], I64 y from fun y hy => by
        rcases List.mem_append.1 hy with hy | hy
        · exact (HRW.out W6 (HB0.out.trans (HX6.out.1.mono HB0.out.size))).2.2.2 y hy
        · obtain rfl := List.mem_singleton.1 hy
          exact HZ64.out)
      have HKS := Lib.hid (show ∀ W, Below W0.heap.size W0 W → (fun w' : World => w'.cell? ⟨N, 0, none⟩ = some (.slice s.hs.oa s.structs.length s.hs.cap) ∧ w'.cell? ⟨N, 1, none⟩ = some (.slice s.he.oa s.enums.length s.he.cap) ∧ w'.cell? ⟨N, 2, none⟩ = some (.slice s.hf.oa s.fns.length s.hf.cap) ∧ w'.cell? ⟨N + 1, 0, none⟩ = some (.string b.nm) ∧ w'.cell? ⟨N + 1, 1, none⟩ = some (.int .i64 b.params) ∧ w'.cell? ⟨N + 1, 2, none⟩ = some (.slice b.hl.oa b.locals.length b.hl.cap) ∧ w'.cell? ⟨N + 1, 3, none⟩ = some (.slice b.hb.oa b.blocks.length b.hb.cap) ∧ w'.cell? ⟨N + 1 + 1, 0, none⟩ = some (.int .i64 loc)) W from fun W h => by
        obtain ⟨-, ⟨h0, h1, h2⟩, ⟨h3, h4, h5, h6⟩, ⟨h7, -⟩⟩ := HK.out W h
        exact ⟨h0, h1, h2, h3, h4, h5, h6, h7⟩)
      go_cut [15, 16, 17] (fun s15 s16 s17 wc => ∃ (G : Nat) (k2 : Int) (nm2 : ByteArray) (h2 : Hd) (l2 : List Ty5) (er : Int) (sh : Bool) (f2 : Nat), s15 = .pointer (some ⟨G, 0, none⟩) ∧ s16 = .bool sh ∧ s17 = .int .i64 er ∧ wc.heap[G]? = some (.cells #[.int .i64 k2, .string nm2, .slice h2.oa l2.length h2.cap] 46) ∧ TyH f2 wc (.mk k2 nm2 h2 l2) ∧ TyR (.mk k2 nm2 h2 l2) sh er (stR s d R z) ∧ Below W6.heap.size W6 wc)
      case first =>
        go_region_held3 (fun w' => w'.cell? ⟨N, 0, none⟩ = some (.slice s.hs.oa s.structs.length s.hs.cap) ∧ w'.cell? ⟨N, 1, none⟩ = some (.slice s.he.oa s.enums.length s.he.cap) ∧ w'.cell? ⟨N, 2, none⟩ = some (.slice s.hf.oa s.fns.length s.hf.cap) ∧ w'.cell? ⟨N + 1, 0, none⟩ = some (.string b.nm) ∧ w'.cell? ⟨N + 1, 1, none⟩ = some (.int .i64 b.params) ∧ w'.cell? ⟨N + 1, 2, none⟩ = some (.slice b.hl.oa b.locals.length b.hl.cap) ∧ w'.cell? ⟨N + 1, 3, none⟩ = some (.slice b.hb.oa b.blocks.length b.hb.cap) ∧ w'.cell? ⟨N + 1 + 1, 0, none⟩ = some (.int .i64 loc)) (first | (refine ⟨?_, ?_, ?_, ?_, ?_, ?_, ?_, ?_⟩ <;> assumption) | exact HKS.out _ (HX6.out.1.trans (Below.mono (by repeat (first | exact HBW.out | exact HB9.out | exact HO7.out.2 | refine Below.drew ?_ | refine Below.setCell ?_ (by first | assumption | exact HBW.out.size | exact HB9.out.size | (simp; omega)) _ | refine Below.alloc ?_ (by first | exact Nat.le_refl _ | assumption | exact HBW.out.size | exact HB9.out.size | (simp; omega) | simp) _)) HX6.out.1.size)) | go_keep) (first | ((refine step_append_lies _ (by rfl) (.tmp 59) (.tmp 61) 31 (by rfl) W6.heap.size 3 iI _ 1 8 Tryz.underlying31 HI.out.1 HI.out.2.1 HI.out.2.2.1 HI.out.2.2.2 (by rfl) (by decide) (.slice p14 np q14) np (([] : List Int).flatMap intC ++ path.flatMap intC) (by rfl) (own_below HO7.out.1 (by repeat (first | exact Below.refl _ _ | refine Below.drew ?_ | refine Below.alloc ?_ (by first | exact Nat.le_refl _ | (simp; omega) | simp) _))) _ 1 1 [.int .i64 z] (by rfl) (by rfl) (World.news_of_block (cs := #[.int .i64 z]) (by first | exact heap_alloc_new _ _ | exact alloc2_new _ _ _ | exact alloc2_old _ _ _ | exact (Below.heap_alloc _ _ _ (by simp)).trans (heap_alloc_new _ _))) (fun u hu => by simp at hu; rw [hu]; rfl) (by decide) (by have := HLP.out; unfold maxLen; omega) (by have := HLP.out; omega) (by first | assumption | (simp; omega)) _ rfl ?_; intro g cap w1 hown1 hgrow hat hlt; have HBW := Lib.hid (Below.grown (a := W6) (B := W6.heap.size) (by repeat (first | exact HBW.out | exact HB9.out | exact HO7.out.2 | refine Below.drew ?_ | refine Below.setCell ?_ (by first | assumption | exact HBW.out.size | exact HB9.out.size | (simp; omega)) _ | refine Below.alloc ?_ (by first | exact Nat.le_refl _ | assumption | exact HBW.out.size | exact HB9.out.size | (simp; omega) | simp) _)) hgrow (by first | assumption | (simp; omega)) (fun k hk => (own_lt HO7.out.1 hk).1)); have HW1 := Lib.hid hown1; (try (have hGa := (hgrow.block W7.heap.size (by first | (simp; done) | (simp; omega)) (fun e => by have := (own_lt HO7.out.1 e.symm).2; omega)).trans (show _ = some (.cells #[.int .i64 0, .string ⟨#[]⟩, .slice none 0 0] 46) from by first | exact heap_alloc_new _ _ | exact (Below.heap_alloc _ _ _ (by simp)).trans (heap_alloc_new _ _) | exact alloc2_new _ _ _ | exact alloc2_old _ _ _))); (try (have hGb := (hgrow.block (W7.heap.size + 1) (by first | (simp; done) | (simp; omega)) (fun e => by have := (own_lt HO7.out.1 e.symm).2; omega)).trans (show _ = some (.cells #[.int .i64 0, .string ⟨#[]⟩, .slice none 0 0] 46) from by first | exact heap_alloc_new _ _ | exact (Below.heap_alloc _ _ _ (by simp)).trans (heap_alloc_new _ _) | exact alloc2_new _ _ _ | exact alloc2_old _ _ _))); clear hown1 hgrow hat)) | ((go_at_call 11; refine (HTZ.out ⟨some ⟨g, 0, none⟩, cap⟩ _ (HB0.out.trans ((HX6.out.1.trans (Below.mono (by repeat (first | exact HBW.out | exact HB9.out | exact HO7.out.2 | refine Below.drew ?_ | refine Below.setCell ?_ (by first | assumption | exact HBW.out.size | exact HB9.out.size | (simp; omega)) _ | refine Below.alloc ?_ (by first | exact Nat.le_refl _ | assumption | exact HBW.out.size | exact HB9.out.size | (simp; omega) | simp) _)) HX6.out.1.size)).mono HB0.out.size)) (Row.below (own_row HW1.out (by simp [List.flatMap_append]; rfl) (by simp [HNP.out]) HPZ.out) (by repeat (first | exact Below.refl _ _ | refine Below.alloc ?_ (by first | exact Nat.le_refl _ | (simp; omega) | simp) _)) fun _ _ h => h)).mono ?_; rintro e W9 ⟨hb9, ⟨⟨k2, nm2, h2, l2⟩, sh, er2, f2, rfl, ht9, hr9⟩⟩; simp only [tyV, tyC]; have HT9 := Lib.hid (And.intro hr9 ht9); have HB9 := Lib.hid (Below.trans (a := W6) (B := W6.heap.size) (by repeat (first | exact HBW.out | exact HB9.out | exact HO7.out.2 | refine Below.drew ?_ | refine Below.setCell ?_ (by first | assumption | exact HBW.out.size | exact HB9.out.size | (simp; omega)) _ | refine Below.alloc ?_ (by first | exact Nat.le_refl _ | assumption | exact HBW.out.size | exact HB9.out.size | (simp; omega) | simp) _)) (hb9.mono (by first | assumption | exact HBW.out.size | (have := HBW.out.size; simp; omega)))); (try (have hG9 := (hb9.block _ (by have := blk_lt hGa; first | exact this | (simp; omega))).trans (by first | exact hGa | (rw [Below.heap_alloc _ _ _ (blk_lt hGa)]; exact hGa)); obtain ⟨z0, z1, z2, zf, zl⟩ := cells3p hG9)); (try (have hG9 := (hb9.block _ (by have := blk_lt hGb; first | exact this | (simp; omega))).trans (by first | exact hGb | (rw [Below.heap_alloc _ _ _ (blk_lt hGb)]; exact hGb)); obtain ⟨z0, z1, z2, zf, zl⟩ := cells3p hG9)); (try (have hG9 := (hb9.block w1.heap.size (by simp)).trans (show _ = some (.cells #[.int .i64 0, .string ⟨#[]⟩, .slice none 0 0] 46) from heap_alloc_new _ _); obtain ⟨z0, z1, z2, zf, zl⟩ := cells3p hG9)); have HS9 := Lib.hid hb9.size; clear hb9 hr9 ht9)))
        all_goals go_wp2_with fail
        all_goals go_meet
        all_goals refine ⟨_, k2, nm2, h2, l2, er2, sh, f2, rfl, rfl, rfl, ?_, ?_, HT9.out.1, (by repeat (first | exact HBW.out | exact HB9.out | exact HO7.out.2 | refine Below.drew ?_ | refine Below.setCell ?_ (by first | assumption | exact HBW.out.size | exact HB9.out.size | (simp; omega)) _ | refine Below.alloc ?_ (by first | exact Nat.le_refl _ | assumption | exact HBW.out.size | exact HB9.out.size | (simp; omega) | simp) _))⟩
        all_goals first
          | exact set3 hG9
          | exact heap_alloc_new _ _
          | exact tyH_set3 HT9.out.2 (blk_lt hGa)
          | exact tyH_set3 HT9.out.2 (blk_lt hGb)
          | exact tyH_set3 HT9.out.2 (by simp)
          | exact TyH.below f2 (TyH.und f2 _ _ _ (show Und _ W9 from ⟨by rw [eb_size]; exact Nat.le_refl _, fun p v h => (eb_cell h).2.2⟩) HT9.out.2) (alloc_below W9 _)
      case rest =>
        obtain ⟨G, k2, nm2, h2, l2, er2, sh, f2, rfl, rfl, rfl, hG, hT2, hR2, hb8⟩ := hcut
        obtain ⟨W8, hW8⟩ : ∃ W, W = wc := ⟨_, rfl⟩
        rw [← hW8] at hG hT2 hb8 ⊢
        clear hW8
        obtain ⟨m0, m1, m2, mf, ml⟩ := cells3p ((hb8.block M1 (blk_lt HM1.out.1)).trans HM1.out.1)
        obtain ⟨o0, o1, o2, of, ol⟩ := cells3p hG
        have HF := Lib.hid (HB0.out.trans ((HX6.out.1.trans (hb8.mono HX6.out.1.size)).mono HB0.out.size))
        have HT1 := Lib.hid (TyH.below f1 HY.out.2 hb8)
        have HT2 := Lib.hid hT2
        have hy := HY.out.1
        clear hG hT2 hb8 h67
        clear a0_7 a1_7 a2_7 b0_7 b1_7 b2_7 b3_7 c0_7 c1_7
        cases R with
        | none =>
          obtain ⟨-, rfl, rfl⟩ := hy
          obtain ⟨-, rfl, rfl⟩ := hR2
          go_wp2
          go_ret
          exact ⟨by first | done | rfl, HF.out⟩
        | some r =>
          obtain ⟨hyr, hm, rfl⟩ := hy
          rw [stR_er hyr hm] at hR2
          clear hyr hm
          cases hI : intoR s d (.mk k1 nm1 h1 l1) z with
          | none =>
            rw [hI] at hR2
            obtain ⟨-, rfl, rfl⟩ := hR2
            by_cases hz1 : z = -1
            · subst hz1
              have ha := intoR_up hI
              rw [addrB] at ha
              clear hI
              by_cases h4 : k1 = 4
              · subst h4
                have el : ((l1.length : Int) == 1) = false := by simpa using ha
                clear ha
                go_upto_region 17 with fail
                go_region
                all_goals go_wp2_with fail
                all_goals go_ret
                all_goals exact ⟨by first | done | rfl, HF.out.drew⟩
              have e4 : (k1 == 4) = false := by simpa using h4
              by_cases h5 : k1 = 5
              · subst h5
                have el : ((l1.length : Int) == 1) = false := by simpa using ha
                clear ha h4
                go_upto_region 17 with fail
                go_region
                all_goals go_wp2_with fail
                all_goals go_ret
                all_goals exact ⟨by first | done | rfl, HF.out.drew⟩
              have e5 : (k1 == 5) = false := by simpa using h5
              by_cases h6 : k1 = 6
              · subst h6
                have el : ((l1.length : Int) == 1) = false := by simpa using ha
                clear ha h4 h5
                go_upto_region 17 with fail
                go_region
                all_goals go_wp2_with fail
                all_goals go_ret
                all_goals exact ⟨by first | done | rfl, HF.out.drew⟩
              have e6 : (k1 == 6) = false := by simpa using h6
              clear ha h4 h5 h6
              go_upto_region 17 with fail
              go_region
              all_goals go_wp2_with fail
              all_goals go_ret
              all_goals exact ⟨by first | done | rfl, HF.out.drew⟩
            · have e1 : (z == -1) = false := by simpa using hz1
              clear hz1 hI
              go_wp2
              go_ret
              exact ⟨by first | done | rfl, HF.out⟩
          | some t =>
            rw [hI] at hR2
            obtain ⟨her2, rfl, rfl⟩ := hR2
            by_cases hz1 : z = -1
            · subst hz1
              obtain ⟨k, nm, hd, x, hy, hk, rfl⟩ := intoR_down hI
              simp only [Ty5.mk.injEq] at hy
              obtain ⟨rfl, rfl, rfl, hl1⟩ := hy
              clear hI
              cases f1 with
              | zero => exact HT1.out.elim
              | succ n1 =>
                obtain ⟨-, hrow⟩ := HT1.out
                rw [hl1] at hrow
                obtain ⟨k3, nm3, h3, l3⟩ := x
                obtain ⟨bb, off, hoa, hlt, hcell⟩ := hrow.2.2.1 (by simp)
                have p0 : W8.cell? ⟨bb, off, none⟩ = some (.int .i64 k3) := by simpa using hcell 0 _ rfl 0 _ rfl
                have p1 : W8.cell? ⟨bb, off + 1, none⟩ = some (.string nm3) := by simpa using hcell 0 _ rfl 1 _ rfl
                have p2 : W8.cell? ⟨bb, off + 2, none⟩ = some (.slice h3.oa l3.length h3.cap) := by simpa using hcell 0 _ rfl 2 _ rfl
                have hx3 : TyH n1 W8 (.mk k3 nm3 h3 l3) := hrow.2.2.2 _ (List.mem_singleton.2 rfl)
                have hsm : tyEq (.mk k2 nm2 h2 l2) (.mk k3 nm3 h3 l3) = true := by
                  rw [← tyEq_er, her2]
                  exact tyEq_self _
                have hsame := fun W (h : Below W8.heap.size W8 W) => rSameTy_any (max f2 n1) (.mk k2 nm2 h2 l2) (.mk k3 nm3 h3 l3) W (TyH.below _ (TyH.le (Nat.le_max_left _ _) HT2.out) h) (TyH.below _ (TyH.le (Nat.le_max_right _ _) hx3) h)
                simp only [hsm, tyV, tyC] at hsame
                have HSM := Lib.hid hsame
                have hlen : l1.length = 1 := by rw [hl1]; rfl
                rw [hlen, hoa] at m2
                clear hl1 hrow hcell hx3 hsm hsame her2 hlen hoa
                have HKP := Lib.hid (show ∀ W, Below W8.heap.size W8 W → (fun w' : World => w'.cell? ⟨M1, 0, none⟩ = some (.int .i64 k1) ∧ w'.cell? ⟨M1, 2, none⟩ = some (.slice (some ⟨bb, off, none⟩) 1 h1.cap) ∧ w'.cell? ⟨G, 0, none⟩ = some (.int .i64 k2) ∧ w'.cell? ⟨G, 1, none⟩ = some (.string nm2) ∧ w'.cell? ⟨G, 2, none⟩ = some (.slice h2.oa l2.length h2.cap) ∧ w'.cell? ⟨bb, off, none⟩ = some (.int .i64 k3) ∧ w'.cell? ⟨bb, off + 1, none⟩ = some (.string nm3) ∧ w'.cell? ⟨bb, off + 2, none⟩ = some (.slice h3.oa l3.length h3.cap)) W from fun W h => ⟨(h.cell (p := ⟨M1, 0, none⟩) ml).trans m0, (h.cell (p := ⟨M1, 2, none⟩) ml).trans m2, (h.cell (p := ⟨G, 0, none⟩) ol).trans o0, (h.cell (p := ⟨G, 1, none⟩) ol).trans o1, (h.cell (p := ⟨G, 2, none⟩) ol).trans o2, (h.cell (p := ⟨bb, off, none⟩) hlt).trans p0, (h.cell (p := ⟨bb, off + 1, none⟩) hlt).trans p1, (h.cell (p := ⟨bb, off + 2, none⟩) hlt).trans p2⟩)
                rcases (show k1 = 4 ∨ k1 = 5 ∨ k1 = 6 by simpa using hk) with rfl | rfl | rfl <;> clear hk <;> cases m
                · as_aux_lemma =>
                  go_upto_region 17 with fail
                  go_region_held3 (fun w' => w'.cell? ⟨M1, 0, none⟩ = some (.int .i64 4) ∧ w'.cell? ⟨M1, 2, none⟩ = some (.slice (some ⟨bb, off, none⟩) 1 h1.cap) ∧ w'.cell? ⟨G, 0, none⟩ = some (.int .i64 k2) ∧ w'.cell? ⟨G, 1, none⟩ = some (.string nm2) ∧ w'.cell? ⟨G, 2, none⟩ = some (.slice h2.oa l2.length h2.cap) ∧ w'.cell? ⟨bb, off, none⟩ = some (.int .i64 k3) ∧ w'.cell? ⟨bb, off + 1, none⟩ = some (.string nm3) ∧ w'.cell? ⟨bb, off + 2, none⟩ = some (.slice h3.oa l3.length h3.cap)) (first | (refine ⟨?_, ?_, ?_, ?_, ?_, ?_, ?_, ?_⟩ <;> assumption) | exact HKP.out _ HB9.out | exact HKP.out _ ((Below.refl _ _).drew) | go_keep) (first | ((go_at_call 13; refine (HSM.out _ (by repeat (first | exact Below.refl _ _ | refine Below.drew ?_))).mono ?_; rintro e W9 ⟨rfl, hb9⟩; have HB9 := Lib.hid (((Below.refl W8.heap.size W8).drew).trans hb9); clear hb9)))
                  go_wp2_with fail
                  go_ret
                  exact ⟨by first | done | rfl, HF.out.trans (HB9.out.mono HF.out.size)⟩
                · as_aux_lemma =>
                  go_upto_region 17 with fail
                  refine wp_region_held_drew (S := fun w' => w'.cell? ⟨M1, 0, none⟩ = some (.int .i64 4) ∧ w'.cell? ⟨M1, 2, none⟩ = some (.slice (some ⟨bb, off, none⟩) 1 h1.cap) ∧ w'.cell? ⟨G, 0, none⟩ = some (.int .i64 k2) ∧ w'.cell? ⟨G, 1, none⟩ = some (.string nm2) ∧ w'.cell? ⟨G, 2, none⟩ = some (.slice h2.oa l2.length h2.cap) ∧ w'.cell? ⟨bb, off, none⟩ = some (.int .i64 k3) ∧ w'.cell? ⟨bb, off + 1, none⟩ = some (.string nm3) ∧ w'.cell? ⟨bb, off + 2, none⟩ = some (.slice h3.oa l3.length h3.cap)) (by kernel_rfl) ?_ (fun hHeld => ?_)
                  · first | exact HKP.out _ (Below.refl _ _) | exact HKP.out _ ((Below.refl _ _).drew)
                  refine wpAnyH_take (i := 0) (oi := { dst := some 104, op := Op.move (Operand.tmp 9), type := 4, pos := "law.go:179", after := #[], guard := none }) (v := ?vq0_1) rfl (by kernel_rfl) (by kernel_rfl) (by kernel_rfl) (fun _ _ _ h => h) (Or.inl ⟨by rfl, ?hq0_1⟩) (by assumption) ?_
                  case hq0_1 => intro w hSw; (try dsimp only at hSw); go_simp; try (with_reducible rfl)
                  (try simp only [Act.put, qA, qB, qC])
                  refine wpAnyH_take (i := 1) (oi := { dst := some 105, op := Op.move (Operand.tmp 104), type := 4, pos := "law.go:179", after := #[{ on := 0, ground := Ground.data }], guard := none }) (v := ?vq1_2) rfl (by kernel_rfl) (by kernel_rfl) (by kernel_rfl) (fun _ _ _ h => h) (Or.inl ⟨by rfl, ?hq1_2⟩) (by assumption) ?_
                  case hq1_2 => intro w hSw; (try dsimp only at hSw); go_simp; try (with_reducible rfl)
                  (try simp only [Act.put, qA, qB, qC])
                  refine wpAnyH_take (i := 2) (oi := { dst := some 106, op := Op.move (Operand.tmp 18), type := 4, pos := "law.go:179", after := #[{ on := 1, ground := Ground.guard }], guard := some (1, true) }) (v := ?vq2_3) rfl (by kernel_rfl) (by kernel_rfl) (by kernel_rfl) (fun _ _ _ h => h) (Or.inl ⟨by rfl, ?hq2_3⟩) (by assumption) ?_
                  case hq2_3 => intro w hSw; (try dsimp only at hSw); go_simp; try (with_reducible rfl)
                  (try simp only [Act.put, qA, qB, qC])
                  refine wpAnyH_take (i := 3) (oi := { dst := some 107, op := Op.unOp UnOp.not 4 (Operand.tmp 106), type := 4, pos := "law.go:179", after := #[{ on := 2, ground := Ground.data }, { on := 1, ground := Ground.guard }], guard := some (1, true) }) (v := ?vq3_4) rfl (by kernel_rfl) (by kernel_rfl) (by kernel_rfl) (fun _ _ _ h => h) (Or.inl ⟨by rfl, ?hq3_4⟩) (by assumption) ?_
                  case hq3_4 => intro w hSw; (try dsimp only at hSw); go_simp; try (with_reducible rfl)
                  (try simp only [Act.put, qA, qB, qC])
                  refine wpAnyH_take (i := 4) (oi := { dst := some 108, op := Op.move (Operand.tmp 107), type := 4, pos := "law.go:179", after := #[{ on := 3, ground := Ground.data }, { on := 1, ground := Ground.chain }, { on := 1, ground := Ground.guard }], guard := some (1, true) }) (v := ?vq4_5) rfl (by kernel_rfl) (by kernel_rfl) (by kernel_rfl) (fun _ _ _ h => h) (Or.inl ⟨by rfl, ?hq4_5⟩) (by assumption) ?_
                  case hq4_5 => intro w hSw; (try dsimp only at hSw); go_simp; try (with_reducible rfl)
                  (try simp only [Act.put, qA, qB, qC])
                  refine wpAnyH_take (i := 5) (oi := { dst := some 109, op := Op.load 46 (Operand.tmp 15), type := 46, pos := "law.go:179", after := #[{ on := 4, ground := Ground.guard }], guard := some (4, false) }) (v := ?vq5_6) rfl (by kernel_rfl) (by kernel_rfl) (by kernel_rfl) (fun _ _ _ h => h) (Or.inl ⟨by rfl, ?hq5_6⟩) (by assumption) ?_
                  case hq5_6 => intro w hSw; (try dsimp only at hSw); go_simp; try (with_reducible rfl)
                  (try simp only [Act.put, qA, qB, qC])
                  refine wpAnyH_take (i := 6) (oi := { dst := some 110, op := Op.fieldAddr 46 (Operand.tmp 11) 2, type := 0, pos := "law.go:179", after := #[{ on := 4, ground := Ground.guard }], guard := some (4, false) }) (v := ?vq6_7) rfl (by kernel_rfl) (by kernel_rfl) (by kernel_rfl) (fun _ _ _ h => h) (Or.inl ⟨by rfl, ?hq6_7⟩) (by assumption) ?_
                  case hq6_7 => intro w hSw; (try dsimp only at hSw); go_simp; try (with_reducible rfl)
                  (try simp only [Act.put, qA, qB, qC])
                  refine wpAnyH_take (i := 7) (oi := { dst := some 111, op := Op.load 44 (Operand.tmp 110), type := 44, pos := "law.go:179", after := #[{ on := 6, ground := Ground.data }, { on := 4, ground := Ground.guard }], guard := some (4, false) }) (v := ?vq7_8) rfl (by kernel_rfl) (by kernel_rfl) (by kernel_rfl) (fun _ _ _ h => h) (Or.inl ⟨by rfl, ?hq7_8⟩) (by assumption) ?_
                  case hq7_8 => intro w hSw; (try dsimp only at hSw); go_simp; try (with_reducible rfl)
                  (try simp only [Act.put, qA, qB, qC])
                  refine wpAnyH_take (i := 8) (oi := { dst := some 112, op := Op.indexAddr 44 (Operand.tmp 111) (Operand.const (Value.int IntKind.i64 0)), type := 0, pos := "law.go:179", after := #[{ on := 7, ground := Ground.data }, { on := 4, ground := Ground.guard }], guard := some (4, false) }) (v := ?vq8_9) rfl (by kernel_rfl) (by kernel_rfl) (by kernel_rfl) (fun _ _ _ h => h) (Or.inl ⟨by rfl, ?hq8_9⟩) (by assumption) ?_
                  case hq8_9 => intro w hSw; (try dsimp only at hSw); go_simp; try (with_reducible rfl)
                  (try simp only [Act.put, qA, qB, qC])
                  refine wpAnyH_take (i := 9) (oi := { dst := some 113, op := Op.load 46 (Operand.tmp 112), type := 46, pos := "law.go:179", after := #[{ on := 8, ground := Ground.data }, { on := 4, ground := Ground.guard }], guard := some (4, false) }) (v := ?vq9_10) rfl (by kernel_rfl) (by kernel_rfl) (by kernel_rfl) (fun _ _ _ h => h) (Or.inl ⟨by rfl, ?hq9_10⟩) (by assumption) ?_
                  case hq9_10 => intro w hSw; (try dsimp only at hSw); go_simp; try (with_reducible rfl)
                  (try simp only [Act.put, qA, qB, qC])
                  refine wpAnyH_ready (rs := [10]) (by kernel_rfl) (by simp) ?_
                  refine AllReadyH.cons (o := { dst := some 114, op := Op.call { callee := Callee.value (Operand.func 13), args := #[Operand.tmp 109, Operand.tmp 113], argTypes := #[46, 46] }, type := 4, pos := "law.go:179", after := #[{ on := 5, ground := Ground.data }, { on := 9, ground := Ground.data }, { on := 4, ground := Ground.chain }, { on := 4, ground := Ground.guard }], guard := some (4, false) }) rfl (fun K hK => ?_) AllReadyH.nil
                  go_simp
                  refine (HSM.out _ (by repeat (first | exact Below.refl _ _ | refine Below.drew ?_))).mono ?_
                  rintro e W9 ⟨rfl, hb9⟩
                  have HB9 := Lib.hid (((Below.refl W8.heap.size W8).drew).trans hb9)
                  clear hb9
                  refine hK.out _ _ ?_ (fun hHeld => ?_)
                  · exact HKP.out _ HB9.out
                  clear hK K
                  (try simp only [Act.put, qA, qB, qC])
                  refine wpAnyH_take (i := 11) (oi := { dst := some 115, op := Op.move (Operand.tmp 114), type := 4, pos := "law.go:179", after := #[{ on := 10, ground := Ground.data }, { on := 10, ground := Ground.chain }, { on := 4, ground := Ground.guard }], guard := some (4, false) }) (v := ?vq11_11) rfl (by kernel_rfl) (by kernel_rfl) (by kernel_rfl) (fun _ _ _ h => h) (Or.inl ⟨by rfl, ?hq11_11⟩) (by assumption) ?_
                  case hq11_11 => intro w hSw; (try dsimp only at hSw); go_simp; try (with_reducible rfl)
                  (try simp only [Act.put, qA, qB, qC])
                  refine wpAnyH_take (i := 12) (oi := { dst := some 116, op := Op.move (Operand.tmp 16), type := 4, pos := "law.go:179", after := #[{ on := 11, ground := Ground.guard }], guard := some (11, true) }) (v := ?vq12_12) rfl (by kernel_rfl) (by kernel_rfl) (by kernel_rfl) (fun _ _ _ h => h) (Or.inl ⟨by rfl, ?hq12_12⟩) (by assumption) ?_
                  case hq12_12 => intro w hSw; (try dsimp only at hSw); go_simp; try (with_reducible rfl)
                  (try simp only [Act.put, qA, qB, qC])
                  refine wpAnyH_take (i := 13) (oi := { dst := some 117, op := Op.move (Operand.tmp 12), type := 4, pos := "law.go:179", after := #[{ on := 11, ground := Ground.guard }], guard := some (11, true) }) (v := ?vq13_13) rfl (by kernel_rfl) (by kernel_rfl) (by kernel_rfl) (fun _ _ _ h => h) (Or.inl ⟨by rfl, ?hq13_13⟩) (by assumption) ?_
                  case hq13_13 => intro w hSw; (try dsimp only at hSw); go_simp; try (with_reducible rfl)
                  (try simp only [Act.put, qA, qB, qC])
                  refine wpAnyH_take (i := 14) (oi := { dst := some 118, op := Op.move (Operand.tmp 117), type := 4, pos := "law.go:179", after := #[{ on := 13, ground := Ground.data }, { on := 11, ground := Ground.chain }, { on := 11, ground := Ground.guard }], guard := some (11, true) }) (v := ?vq14_14) rfl (by kernel_rfl) (by kernel_rfl) (by kernel_rfl) (fun _ _ _ h => h) (Or.inl ⟨by rfl, ?hq14_14⟩) (by assumption) ?_
                  case hq14_14 => intro w hSw; (try dsimp only at hSw); go_simp; try (with_reducible rfl)
                  (try simp only [Act.put, qA, qB, qC])
                  refine wpAnyH_take (i := 15) (oi := { dst := some 119, op := Op.fieldAddr 46 (Operand.tmp 11) 0, type := 0, pos := "law.go:179", after := #[{ on := 14, ground := Ground.guard }], guard := some (14, false) }) (v := undef) rfl (by kernel_rfl) (by kernel_rfl) (by kernel_rfl) (fun _ _ _ h => h) (Or.inr ⟨by rfl, rfl⟩) (by assumption) ?_
                  (try simp only [Act.put, qA, qB, qC])
                  refine wpAnyH_take (i := 16) (oi := { dst := some 120, op := Op.load 43 (Operand.tmp 119), type := 43, pos := "law.go:179", after := #[{ on := 15, ground := Ground.data }, { on := 14, ground := Ground.guard }], guard := some (14, false) }) (v := undef) rfl (by kernel_rfl) (by kernel_rfl) (by kernel_rfl) (fun _ _ _ h => h) (Or.inr ⟨by rfl, rfl⟩) (by assumption) ?_
                  (try simp only [Act.put, qA, qB, qC])
                  refine wpAnyH_take (i := 17) (oi := { dst := some 121, op := Op.binOp BinOp.eql 43 (Operand.tmp 120) (Operand.const (Value.int IntKind.i64 5)) 43, type := 4, pos := "law.go:179", after := #[{ on := 16, ground := Ground.data }, { on := 14, ground := Ground.guard }], guard := some (14, false) }) (v := undef) rfl (by kernel_rfl) (by kernel_rfl) (by kernel_rfl) (fun _ _ _ h => h) (Or.inr ⟨by rfl, rfl⟩) (by assumption) ?_
                  (try simp only [Act.put, qA, qB, qC])
                  refine wpAnyH_take (i := 18) (oi := { dst := some 122, op := Op.pick (Operand.tmp 118) (Operand.const (Value.bool true)) (Operand.tmp 121), type := 4, pos := "law.go:179", after := #[{ on := 14, ground := Ground.data }, { on := 17, ground := Ground.data }, { on := 11, ground := Ground.guard }], guard := some (11, true) }) (v := ?vq18_15) rfl (by kernel_rfl) (by kernel_rfl) (by kernel_rfl) (fun _ _ _ h => h) (Or.inl ⟨by rfl, ?hq18_15⟩) (by assumption) ?_
                  case hq18_15 => intro w hSw; (try dsimp only at hSw); go_simp; try (with_reducible rfl)
                  (try simp only [Act.put, qA, qB, qC])
                  refine wpAnyH_take (i := 19) (oi := { dst := some 123, op := Op.binOp BinOp.eql 4 (Operand.tmp 116) (Operand.tmp 122) 4, type := 4, pos := "law.go:179", after := #[{ on := 12, ground := Ground.data }, { on := 18, ground := Ground.data }, { on := 11, ground := Ground.guard }], guard := some (11, true) }) (v := ?vq19_16) rfl (by kernel_rfl) (by kernel_rfl) (by kernel_rfl) (fun _ _ _ h => h) (Or.inl ⟨by rfl, ?hq19_16⟩) (by assumption) ?_
                  case hq19_16 => intro w hSw; (try dsimp only at hSw); go_simp; try (with_reducible rfl)
                  (try simp only [Act.put, qA, qB, qC])
                  refine wpAnyH_take (i := 20) (oi := { dst := some 124, op := Op.pick (Operand.tmp 115) (Operand.tmp 123) (Operand.const (Value.bool false)), type := 4, pos := "law.go:179", after := #[{ on := 11, ground := Ground.data }, { on := 19, ground := Ground.data }, { on := 4, ground := Ground.guard }], guard := some (4, false) }) (v := ?vq20_17) rfl (by kernel_rfl) (by kernel_rfl) (by kernel_rfl) (fun _ _ _ h => h) (Or.inl ⟨by rfl, ?hq20_17⟩) (by assumption) ?_
                  case hq20_17 => intro w hSw; (try dsimp only at hSw); go_simp; try (with_reducible rfl)
                  (try simp only [Act.put, qA, qB, qC])
                  refine wpAnyH_take (i := 21) (oi := { dst := some 125, op := Op.pick (Operand.tmp 108) (Operand.const (Value.bool true)) (Operand.tmp 124), type := 4, pos := "law.go:179", after := #[{ on := 4, ground := Ground.data }, { on := 20, ground := Ground.data }, { on := 1, ground := Ground.guard }], guard := some (1, true) }) (v := ?vq21_18) rfl (by kernel_rfl) (by kernel_rfl) (by kernel_rfl) (fun _ _ _ h => h) (Or.inl ⟨by rfl, ?hq21_18⟩) (by assumption) ?_
                  case hq21_18 => intro w hSw; (try dsimp only at hSw); go_simp; try (with_reducible rfl)
                  (try simp only [Act.put, qA, qB, qC])
                  refine wpAnyH_take (i := 22) (oi := { dst := some 126, op := Op.pick (Operand.tmp 105) (Operand.tmp 125) (Operand.const (Value.bool false)), type := 4, pos := "law.go:179", after := #[{ on := 1, ground := Ground.data }, { on := 21, ground := Ground.data }], guard := none }) (v := ?vq22_19) rfl (by kernel_rfl) (by kernel_rfl) (by kernel_rfl) (fun _ _ _ h => h) (Or.inl ⟨by rfl, ?hq22_19⟩) (by assumption) ?_
                  case hq22_19 => intro w hSw; (try dsimp only at hSw); go_simp; try (with_reducible rfl)
                  (try simp only [Act.put, qA, qB, qC])
                  refine wpAnyH_take (i := 23) (oi := { dst := some 8, op := Op.assign (Operand.tmp 126), type := 4, pos := "law.go:179", after := #[{ on := 22, ground := Ground.data }, { on := 14, ground := Ground.chain }, { on := 0, ground := Ground.phase }, { on := 1, ground := Ground.phase }, { on := 2, ground := Ground.phase }, { on := 3, ground := Ground.phase }, { on := 4, ground := Ground.phase }, { on := 5, ground := Ground.phase }, { on := 6, ground := Ground.phase }, { on := 7, ground := Ground.phase }, { on := 8, ground := Ground.phase }, { on := 9, ground := Ground.phase }, { on := 10, ground := Ground.phase }, { on := 11, ground := Ground.phase }, { on := 12, ground := Ground.phase }, { on := 13, ground := Ground.phase }, { on := 14, ground := Ground.phase }, { on := 15, ground := Ground.phase }, { on := 16, ground := Ground.phase }, { on := 17, ground := Ground.phase }, { on := 18, ground := Ground.phase }, { on := 19, ground := Ground.phase }, { on := 20, ground := Ground.phase }, { on := 21, ground := Ground.phase }, { on := 22, ground := Ground.phase }], guard := none }) (v := ?vq23_20) rfl (by kernel_rfl) (by kernel_rfl) (by kernel_rfl) (fun _ _ _ h => h) (Or.inl ⟨by rfl, ?hq23_20⟩) (by assumption) ?_
                  case hq23_20 => intro w hSw; (try dsimp only at hSw); go_simp; try (with_reducible rfl)
                  (try simp only [Act.put, qA, qB, qC])
                  refine wpAnyH_done (by kernel_rfl) ?_ _
                  go_wp2_with fail
                  go_ret
                  exact ⟨by first | done | rfl, HF.out.trans (HB9.out.mono HF.out.size)⟩
                · as_aux_lemma =>
                  go_upto_region 17 with fail
                  go_region_held3 (fun w' => w'.cell? ⟨M1, 0, none⟩ = some (.int .i64 5) ∧ w'.cell? ⟨M1, 2, none⟩ = some (.slice (some ⟨bb, off, none⟩) 1 h1.cap) ∧ w'.cell? ⟨G, 0, none⟩ = some (.int .i64 k2) ∧ w'.cell? ⟨G, 1, none⟩ = some (.string nm2) ∧ w'.cell? ⟨G, 2, none⟩ = some (.slice h2.oa l2.length h2.cap) ∧ w'.cell? ⟨bb, off, none⟩ = some (.int .i64 k3) ∧ w'.cell? ⟨bb, off + 1, none⟩ = some (.string nm3) ∧ w'.cell? ⟨bb, off + 2, none⟩ = some (.slice h3.oa l3.length h3.cap)) (first | (refine ⟨?_, ?_, ?_, ?_, ?_, ?_, ?_, ?_⟩ <;> assumption) | exact HKP.out _ HB9.out | exact HKP.out _ ((Below.refl _ _).drew) | go_keep) (first | ((go_at_call 13; refine (HSM.out _ (by repeat (first | exact Below.refl _ _ | refine Below.drew ?_))).mono ?_; rintro e W9 ⟨rfl, hb9⟩; have HB9 := Lib.hid (((Below.refl W8.heap.size W8).drew).trans hb9); clear hb9)))
                  go_wp2_with fail
                  go_ret
                  exact ⟨by first | done | rfl, HF.out.trans (HB9.out.mono HF.out.size)⟩
                · as_aux_lemma =>
                  go_upto_region 17 with fail
                  refine wp_region_held_drew (S := fun w' => w'.cell? ⟨M1, 0, none⟩ = some (.int .i64 5) ∧ w'.cell? ⟨M1, 2, none⟩ = some (.slice (some ⟨bb, off, none⟩) 1 h1.cap) ∧ w'.cell? ⟨G, 0, none⟩ = some (.int .i64 k2) ∧ w'.cell? ⟨G, 1, none⟩ = some (.string nm2) ∧ w'.cell? ⟨G, 2, none⟩ = some (.slice h2.oa l2.length h2.cap) ∧ w'.cell? ⟨bb, off, none⟩ = some (.int .i64 k3) ∧ w'.cell? ⟨bb, off + 1, none⟩ = some (.string nm3) ∧ w'.cell? ⟨bb, off + 2, none⟩ = some (.slice h3.oa l3.length h3.cap)) (by kernel_rfl) ?_ (fun hHeld => ?_)
                  · first | exact HKP.out _ (Below.refl _ _) | exact HKP.out _ ((Below.refl _ _).drew)
                  refine wpAnyH_take (i := 0) (oi := { dst := some 104, op := Op.move (Operand.tmp 9), type := 4, pos := "law.go:179", after := #[], guard := none }) (v := ?vq0_21) rfl (by kernel_rfl) (by kernel_rfl) (by kernel_rfl) (fun _ _ _ h => h) (Or.inl ⟨by rfl, ?hq0_21⟩) (by assumption) ?_
                  case hq0_21 => intro w hSw; (try dsimp only at hSw); go_simp; try (with_reducible rfl)
                  (try simp only [Act.put, qA, qB, qC])
                  refine wpAnyH_take (i := 1) (oi := { dst := some 105, op := Op.move (Operand.tmp 104), type := 4, pos := "law.go:179", after := #[{ on := 0, ground := Ground.data }], guard := none }) (v := ?vq1_22) rfl (by kernel_rfl) (by kernel_rfl) (by kernel_rfl) (fun _ _ _ h => h) (Or.inl ⟨by rfl, ?hq1_22⟩) (by assumption) ?_
                  case hq1_22 => intro w hSw; (try dsimp only at hSw); go_simp; try (with_reducible rfl)
                  (try simp only [Act.put, qA, qB, qC])
                  refine wpAnyH_take (i := 2) (oi := { dst := some 106, op := Op.move (Operand.tmp 18), type := 4, pos := "law.go:179", after := #[{ on := 1, ground := Ground.guard }], guard := some (1, true) }) (v := ?vq2_23) rfl (by kernel_rfl) (by kernel_rfl) (by kernel_rfl) (fun _ _ _ h => h) (Or.inl ⟨by rfl, ?hq2_23⟩) (by assumption) ?_
                  case hq2_23 => intro w hSw; (try dsimp only at hSw); go_simp; try (with_reducible rfl)
                  (try simp only [Act.put, qA, qB, qC])
                  refine wpAnyH_take (i := 3) (oi := { dst := some 107, op := Op.unOp UnOp.not 4 (Operand.tmp 106), type := 4, pos := "law.go:179", after := #[{ on := 2, ground := Ground.data }, { on := 1, ground := Ground.guard }], guard := some (1, true) }) (v := ?vq3_24) rfl (by kernel_rfl) (by kernel_rfl) (by kernel_rfl) (fun _ _ _ h => h) (Or.inl ⟨by rfl, ?hq3_24⟩) (by assumption) ?_
                  case hq3_24 => intro w hSw; (try dsimp only at hSw); go_simp; try (with_reducible rfl)
                  (try simp only [Act.put, qA, qB, qC])
                  refine wpAnyH_take (i := 4) (oi := { dst := some 108, op := Op.move (Operand.tmp 107), type := 4, pos := "law.go:179", after := #[{ on := 3, ground := Ground.data }, { on := 1, ground := Ground.chain }, { on := 1, ground := Ground.guard }], guard := some (1, true) }) (v := ?vq4_25) rfl (by kernel_rfl) (by kernel_rfl) (by kernel_rfl) (fun _ _ _ h => h) (Or.inl ⟨by rfl, ?hq4_25⟩) (by assumption) ?_
                  case hq4_25 => intro w hSw; (try dsimp only at hSw); go_simp; try (with_reducible rfl)
                  (try simp only [Act.put, qA, qB, qC])
                  refine wpAnyH_take (i := 5) (oi := { dst := some 109, op := Op.load 46 (Operand.tmp 15), type := 46, pos := "law.go:179", after := #[{ on := 4, ground := Ground.guard }], guard := some (4, false) }) (v := ?vq5_26) rfl (by kernel_rfl) (by kernel_rfl) (by kernel_rfl) (fun _ _ _ h => h) (Or.inl ⟨by rfl, ?hq5_26⟩) (by assumption) ?_
                  case hq5_26 => intro w hSw; (try dsimp only at hSw); go_simp; try (with_reducible rfl)
                  (try simp only [Act.put, qA, qB, qC])
                  refine wpAnyH_take (i := 6) (oi := { dst := some 110, op := Op.fieldAddr 46 (Operand.tmp 11) 2, type := 0, pos := "law.go:179", after := #[{ on := 4, ground := Ground.guard }], guard := some (4, false) }) (v := ?vq6_27) rfl (by kernel_rfl) (by kernel_rfl) (by kernel_rfl) (fun _ _ _ h => h) (Or.inl ⟨by rfl, ?hq6_27⟩) (by assumption) ?_
                  case hq6_27 => intro w hSw; (try dsimp only at hSw); go_simp; try (with_reducible rfl)
                  (try simp only [Act.put, qA, qB, qC])
                  refine wpAnyH_take (i := 7) (oi := { dst := some 111, op := Op.load 44 (Operand.tmp 110), type := 44, pos := "law.go:179", after := #[{ on := 6, ground := Ground.data }, { on := 4, ground := Ground.guard }], guard := some (4, false) }) (v := ?vq7_28) rfl (by kernel_rfl) (by kernel_rfl) (by kernel_rfl) (fun _ _ _ h => h) (Or.inl ⟨by rfl, ?hq7_28⟩) (by assumption) ?_
                  case hq7_28 => intro w hSw; (try dsimp only at hSw); go_simp; try (with_reducible rfl)
                  (try simp only [Act.put, qA, qB, qC])
                  refine wpAnyH_take (i := 8) (oi := { dst := some 112, op := Op.indexAddr 44 (Operand.tmp 111) (Operand.const (Value.int IntKind.i64 0)), type := 0, pos := "law.go:179", after := #[{ on := 7, ground := Ground.data }, { on := 4, ground := Ground.guard }], guard := some (4, false) }) (v := ?vq8_29) rfl (by kernel_rfl) (by kernel_rfl) (by kernel_rfl) (fun _ _ _ h => h) (Or.inl ⟨by rfl, ?hq8_29⟩) (by assumption) ?_
                  case hq8_29 => intro w hSw; (try dsimp only at hSw); go_simp; try (with_reducible rfl)
                  (try simp only [Act.put, qA, qB, qC])
                  refine wpAnyH_take (i := 9) (oi := { dst := some 113, op := Op.load 46 (Operand.tmp 112), type := 46, pos := "law.go:179", after := #[{ on := 8, ground := Ground.data }, { on := 4, ground := Ground.guard }], guard := some (4, false) }) (v := ?vq9_30) rfl (by kernel_rfl) (by kernel_rfl) (by kernel_rfl) (fun _ _ _ h => h) (Or.inl ⟨by rfl, ?hq9_30⟩) (by assumption) ?_
                  case hq9_30 => intro w hSw; (try dsimp only at hSw); go_simp; try (with_reducible rfl)
                  (try simp only [Act.put, qA, qB, qC])
                  refine wpAnyH_ready (rs := [10]) (by kernel_rfl) (by simp) ?_
                  refine AllReadyH.cons (o := { dst := some 114, op := Op.call { callee := Callee.value (Operand.func 13), args := #[Operand.tmp 109, Operand.tmp 113], argTypes := #[46, 46] }, type := 4, pos := "law.go:179", after := #[{ on := 5, ground := Ground.data }, { on := 9, ground := Ground.data }, { on := 4, ground := Ground.chain }, { on := 4, ground := Ground.guard }], guard := some (4, false) }) rfl (fun K hK => ?_) AllReadyH.nil
                  go_simp
                  refine (HSM.out _ (by repeat (first | exact Below.refl _ _ | refine Below.drew ?_))).mono ?_
                  rintro e W9 ⟨rfl, hb9⟩
                  have HB9 := Lib.hid (((Below.refl W8.heap.size W8).drew).trans hb9)
                  clear hb9
                  refine hK.out _ _ ?_ (fun hHeld => ?_)
                  · exact HKP.out _ HB9.out
                  clear hK K
                  (try simp only [Act.put, qA, qB, qC])
                  refine wpAnyH_take (i := 11) (oi := { dst := some 115, op := Op.move (Operand.tmp 114), type := 4, pos := "law.go:179", after := #[{ on := 10, ground := Ground.data }, { on := 10, ground := Ground.chain }, { on := 4, ground := Ground.guard }], guard := some (4, false) }) (v := ?vq11_31) rfl (by kernel_rfl) (by kernel_rfl) (by kernel_rfl) (fun _ _ _ h => h) (Or.inl ⟨by rfl, ?hq11_31⟩) (by assumption) ?_
                  case hq11_31 => intro w hSw; (try dsimp only at hSw); go_simp; try (with_reducible rfl)
                  (try simp only [Act.put, qA, qB, qC])
                  refine wpAnyH_take (i := 12) (oi := { dst := some 116, op := Op.move (Operand.tmp 16), type := 4, pos := "law.go:179", after := #[{ on := 11, ground := Ground.guard }], guard := some (11, true) }) (v := ?vq12_32) rfl (by kernel_rfl) (by kernel_rfl) (by kernel_rfl) (fun _ _ _ h => h) (Or.inl ⟨by rfl, ?hq12_32⟩) (by assumption) ?_
                  case hq12_32 => intro w hSw; (try dsimp only at hSw); go_simp; try (with_reducible rfl)
                  (try simp only [Act.put, qA, qB, qC])
                  refine wpAnyH_take (i := 13) (oi := { dst := some 117, op := Op.move (Operand.tmp 12), type := 4, pos := "law.go:179", after := #[{ on := 11, ground := Ground.guard }], guard := some (11, true) }) (v := ?vq13_33) rfl (by kernel_rfl) (by kernel_rfl) (by kernel_rfl) (fun _ _ _ h => h) (Or.inl ⟨by rfl, ?hq13_33⟩) (by assumption) ?_
                  case hq13_33 => intro w hSw; (try dsimp only at hSw); go_simp; try (with_reducible rfl)
                  (try simp only [Act.put, qA, qB, qC])
                  refine wpAnyH_take (i := 14) (oi := { dst := some 118, op := Op.move (Operand.tmp 117), type := 4, pos := "law.go:179", after := #[{ on := 13, ground := Ground.data }, { on := 11, ground := Ground.chain }, { on := 11, ground := Ground.guard }], guard := some (11, true) }) (v := ?vq14_34) rfl (by kernel_rfl) (by kernel_rfl) (by kernel_rfl) (fun _ _ _ h => h) (Or.inl ⟨by rfl, ?hq14_34⟩) (by assumption) ?_
                  case hq14_34 => intro w hSw; (try dsimp only at hSw); go_simp; try (with_reducible rfl)
                  (try simp only [Act.put, qA, qB, qC])
                  refine wpAnyH_take (i := 15) (oi := { dst := some 119, op := Op.fieldAddr 46 (Operand.tmp 11) 0, type := 0, pos := "law.go:179", after := #[{ on := 14, ground := Ground.guard }], guard := some (14, false) }) (v := undef) rfl (by kernel_rfl) (by kernel_rfl) (by kernel_rfl) (fun _ _ _ h => h) (Or.inr ⟨by rfl, rfl⟩) (by assumption) ?_
                  (try simp only [Act.put, qA, qB, qC])
                  refine wpAnyH_take (i := 16) (oi := { dst := some 120, op := Op.load 43 (Operand.tmp 119), type := 43, pos := "law.go:179", after := #[{ on := 15, ground := Ground.data }, { on := 14, ground := Ground.guard }], guard := some (14, false) }) (v := undef) rfl (by kernel_rfl) (by kernel_rfl) (by kernel_rfl) (fun _ _ _ h => h) (Or.inr ⟨by rfl, rfl⟩) (by assumption) ?_
                  (try simp only [Act.put, qA, qB, qC])
                  refine wpAnyH_take (i := 17) (oi := { dst := some 121, op := Op.binOp BinOp.eql 43 (Operand.tmp 120) (Operand.const (Value.int IntKind.i64 5)) 43, type := 4, pos := "law.go:179", after := #[{ on := 16, ground := Ground.data }, { on := 14, ground := Ground.guard }], guard := some (14, false) }) (v := undef) rfl (by kernel_rfl) (by kernel_rfl) (by kernel_rfl) (fun _ _ _ h => h) (Or.inr ⟨by rfl, rfl⟩) (by assumption) ?_
                  (try simp only [Act.put, qA, qB, qC])
                  refine wpAnyH_take (i := 18) (oi := { dst := some 122, op := Op.pick (Operand.tmp 118) (Operand.const (Value.bool true)) (Operand.tmp 121), type := 4, pos := "law.go:179", after := #[{ on := 14, ground := Ground.data }, { on := 17, ground := Ground.data }, { on := 11, ground := Ground.guard }], guard := some (11, true) }) (v := ?vq18_35) rfl (by kernel_rfl) (by kernel_rfl) (by kernel_rfl) (fun _ _ _ h => h) (Or.inl ⟨by rfl, ?hq18_35⟩) (by assumption) ?_
                  case hq18_35 => intro w hSw; (try dsimp only at hSw); go_simp; try (with_reducible rfl)
                  (try simp only [Act.put, qA, qB, qC])
                  refine wpAnyH_take (i := 19) (oi := { dst := some 123, op := Op.binOp BinOp.eql 4 (Operand.tmp 116) (Operand.tmp 122) 4, type := 4, pos := "law.go:179", after := #[{ on := 12, ground := Ground.data }, { on := 18, ground := Ground.data }, { on := 11, ground := Ground.guard }], guard := some (11, true) }) (v := ?vq19_36) rfl (by kernel_rfl) (by kernel_rfl) (by kernel_rfl) (fun _ _ _ h => h) (Or.inl ⟨by rfl, ?hq19_36⟩) (by assumption) ?_
                  case hq19_36 => intro w hSw; (try dsimp only at hSw); go_simp; try (with_reducible rfl)
                  (try simp only [Act.put, qA, qB, qC])
                  refine wpAnyH_take (i := 20) (oi := { dst := some 124, op := Op.pick (Operand.tmp 115) (Operand.tmp 123) (Operand.const (Value.bool false)), type := 4, pos := "law.go:179", after := #[{ on := 11, ground := Ground.data }, { on := 19, ground := Ground.data }, { on := 4, ground := Ground.guard }], guard := some (4, false) }) (v := ?vq20_37) rfl (by kernel_rfl) (by kernel_rfl) (by kernel_rfl) (fun _ _ _ h => h) (Or.inl ⟨by rfl, ?hq20_37⟩) (by assumption) ?_
                  case hq20_37 => intro w hSw; (try dsimp only at hSw); go_simp; try (with_reducible rfl)
                  (try simp only [Act.put, qA, qB, qC])
                  refine wpAnyH_take (i := 21) (oi := { dst := some 125, op := Op.pick (Operand.tmp 108) (Operand.const (Value.bool true)) (Operand.tmp 124), type := 4, pos := "law.go:179", after := #[{ on := 4, ground := Ground.data }, { on := 20, ground := Ground.data }, { on := 1, ground := Ground.guard }], guard := some (1, true) }) (v := ?vq21_38) rfl (by kernel_rfl) (by kernel_rfl) (by kernel_rfl) (fun _ _ _ h => h) (Or.inl ⟨by rfl, ?hq21_38⟩) (by assumption) ?_
                  case hq21_38 => intro w hSw; (try dsimp only at hSw); go_simp; try (with_reducible rfl)
                  (try simp only [Act.put, qA, qB, qC])
                  refine wpAnyH_take (i := 22) (oi := { dst := some 126, op := Op.pick (Operand.tmp 105) (Operand.tmp 125) (Operand.const (Value.bool false)), type := 4, pos := "law.go:179", after := #[{ on := 1, ground := Ground.data }, { on := 21, ground := Ground.data }], guard := none }) (v := ?vq22_39) rfl (by kernel_rfl) (by kernel_rfl) (by kernel_rfl) (fun _ _ _ h => h) (Or.inl ⟨by rfl, ?hq22_39⟩) (by assumption) ?_
                  case hq22_39 => intro w hSw; (try dsimp only at hSw); go_simp; try (with_reducible rfl)
                  (try simp only [Act.put, qA, qB, qC])
                  refine wpAnyH_take (i := 23) (oi := { dst := some 8, op := Op.assign (Operand.tmp 126), type := 4, pos := "law.go:179", after := #[{ on := 22, ground := Ground.data }, { on := 14, ground := Ground.chain }, { on := 0, ground := Ground.phase }, { on := 1, ground := Ground.phase }, { on := 2, ground := Ground.phase }, { on := 3, ground := Ground.phase }, { on := 4, ground := Ground.phase }, { on := 5, ground := Ground.phase }, { on := 6, ground := Ground.phase }, { on := 7, ground := Ground.phase }, { on := 8, ground := Ground.phase }, { on := 9, ground := Ground.phase }, { on := 10, ground := Ground.phase }, { on := 11, ground := Ground.phase }, { on := 12, ground := Ground.phase }, { on := 13, ground := Ground.phase }, { on := 14, ground := Ground.phase }, { on := 15, ground := Ground.phase }, { on := 16, ground := Ground.phase }, { on := 17, ground := Ground.phase }, { on := 18, ground := Ground.phase }, { on := 19, ground := Ground.phase }, { on := 20, ground := Ground.phase }, { on := 21, ground := Ground.phase }, { on := 22, ground := Ground.phase }], guard := none }) (v := ?vq23_40) rfl (by kernel_rfl) (by kernel_rfl) (by kernel_rfl) (fun _ _ _ h => h) (Or.inl ⟨by rfl, ?hq23_40⟩) (by assumption) ?_
                  case hq23_40 => intro w hSw; (try dsimp only at hSw); go_simp; try (with_reducible rfl)
                  (try simp only [Act.put, qA, qB, qC])
                  refine wpAnyH_done (by kernel_rfl) ?_ _
                  go_wp2_with fail
                  go_ret
                  exact ⟨by first | done | rfl, HF.out.trans (HB9.out.mono HF.out.size)⟩
                · as_aux_lemma =>
                  go_upto_region 17 with fail
                  go_region_held3 (fun w' => w'.cell? ⟨M1, 0, none⟩ = some (.int .i64 6) ∧ w'.cell? ⟨M1, 2, none⟩ = some (.slice (some ⟨bb, off, none⟩) 1 h1.cap) ∧ w'.cell? ⟨G, 0, none⟩ = some (.int .i64 k2) ∧ w'.cell? ⟨G, 1, none⟩ = some (.string nm2) ∧ w'.cell? ⟨G, 2, none⟩ = some (.slice h2.oa l2.length h2.cap) ∧ w'.cell? ⟨bb, off, none⟩ = some (.int .i64 k3) ∧ w'.cell? ⟨bb, off + 1, none⟩ = some (.string nm3) ∧ w'.cell? ⟨bb, off + 2, none⟩ = some (.slice h3.oa l3.length h3.cap)) (first | (refine ⟨?_, ?_, ?_, ?_, ?_, ?_, ?_, ?_⟩ <;> assumption) | exact HKP.out _ HB9.out | exact HKP.out _ ((Below.refl _ _).drew) | go_keep) (first | ((go_at_call 13; refine (HSM.out _ (by repeat (first | exact Below.refl _ _ | refine Below.drew ?_))).mono ?_; rintro e W9 ⟨rfl, hb9⟩; have HB9 := Lib.hid (((Below.refl W8.heap.size W8).drew).trans hb9); clear hb9)))
                  go_wp2_with fail
                  go_ret
                  exact ⟨by first | done | rfl, HF.out.trans (HB9.out.mono HF.out.size)⟩
                · as_aux_lemma =>
                  go_upto_region 17 with fail
                  refine wp_region_held_drew (S := fun w' => w'.cell? ⟨M1, 0, none⟩ = some (.int .i64 6) ∧ w'.cell? ⟨M1, 2, none⟩ = some (.slice (some ⟨bb, off, none⟩) 1 h1.cap) ∧ w'.cell? ⟨G, 0, none⟩ = some (.int .i64 k2) ∧ w'.cell? ⟨G, 1, none⟩ = some (.string nm2) ∧ w'.cell? ⟨G, 2, none⟩ = some (.slice h2.oa l2.length h2.cap) ∧ w'.cell? ⟨bb, off, none⟩ = some (.int .i64 k3) ∧ w'.cell? ⟨bb, off + 1, none⟩ = some (.string nm3) ∧ w'.cell? ⟨bb, off + 2, none⟩ = some (.slice h3.oa l3.length h3.cap)) (by kernel_rfl) ?_ (fun hHeld => ?_)
                  · first | exact HKP.out _ (Below.refl _ _) | exact HKP.out _ ((Below.refl _ _).drew)
                  refine wpAnyH_take (i := 0) (oi := { dst := some 104, op := Op.move (Operand.tmp 9), type := 4, pos := "law.go:179", after := #[], guard := none }) (v := ?vq0_41) rfl (by kernel_rfl) (by kernel_rfl) (by kernel_rfl) (fun _ _ _ h => h) (Or.inl ⟨by rfl, ?hq0_41⟩) (by assumption) ?_
                  case hq0_41 => intro w hSw; (try dsimp only at hSw); go_simp; try (with_reducible rfl)
                  (try simp only [Act.put, qA, qB, qC])
                  refine wpAnyH_take (i := 1) (oi := { dst := some 105, op := Op.move (Operand.tmp 104), type := 4, pos := "law.go:179", after := #[{ on := 0, ground := Ground.data }], guard := none }) (v := ?vq1_42) rfl (by kernel_rfl) (by kernel_rfl) (by kernel_rfl) (fun _ _ _ h => h) (Or.inl ⟨by rfl, ?hq1_42⟩) (by assumption) ?_
                  case hq1_42 => intro w hSw; (try dsimp only at hSw); go_simp; try (with_reducible rfl)
                  (try simp only [Act.put, qA, qB, qC])
                  refine wpAnyH_take (i := 2) (oi := { dst := some 106, op := Op.move (Operand.tmp 18), type := 4, pos := "law.go:179", after := #[{ on := 1, ground := Ground.guard }], guard := some (1, true) }) (v := ?vq2_43) rfl (by kernel_rfl) (by kernel_rfl) (by kernel_rfl) (fun _ _ _ h => h) (Or.inl ⟨by rfl, ?hq2_43⟩) (by assumption) ?_
                  case hq2_43 => intro w hSw; (try dsimp only at hSw); go_simp; try (with_reducible rfl)
                  (try simp only [Act.put, qA, qB, qC])
                  refine wpAnyH_take (i := 3) (oi := { dst := some 107, op := Op.unOp UnOp.not 4 (Operand.tmp 106), type := 4, pos := "law.go:179", after := #[{ on := 2, ground := Ground.data }, { on := 1, ground := Ground.guard }], guard := some (1, true) }) (v := ?vq3_44) rfl (by kernel_rfl) (by kernel_rfl) (by kernel_rfl) (fun _ _ _ h => h) (Or.inl ⟨by rfl, ?hq3_44⟩) (by assumption) ?_
                  case hq3_44 => intro w hSw; (try dsimp only at hSw); go_simp; try (with_reducible rfl)
                  (try simp only [Act.put, qA, qB, qC])
                  refine wpAnyH_take (i := 4) (oi := { dst := some 108, op := Op.move (Operand.tmp 107), type := 4, pos := "law.go:179", after := #[{ on := 3, ground := Ground.data }, { on := 1, ground := Ground.chain }, { on := 1, ground := Ground.guard }], guard := some (1, true) }) (v := ?vq4_45) rfl (by kernel_rfl) (by kernel_rfl) (by kernel_rfl) (fun _ _ _ h => h) (Or.inl ⟨by rfl, ?hq4_45⟩) (by assumption) ?_
                  case hq4_45 => intro w hSw; (try dsimp only at hSw); go_simp; try (with_reducible rfl)
                  (try simp only [Act.put, qA, qB, qC])
                  refine wpAnyH_take (i := 5) (oi := { dst := some 109, op := Op.load 46 (Operand.tmp 15), type := 46, pos := "law.go:179", after := #[{ on := 4, ground := Ground.guard }], guard := some (4, false) }) (v := ?vq5_46) rfl (by kernel_rfl) (by kernel_rfl) (by kernel_rfl) (fun _ _ _ h => h) (Or.inl ⟨by rfl, ?hq5_46⟩) (by assumption) ?_
                  case hq5_46 => intro w hSw; (try dsimp only at hSw); go_simp; try (with_reducible rfl)
                  (try simp only [Act.put, qA, qB, qC])
                  refine wpAnyH_take (i := 6) (oi := { dst := some 110, op := Op.fieldAddr 46 (Operand.tmp 11) 2, type := 0, pos := "law.go:179", after := #[{ on := 4, ground := Ground.guard }], guard := some (4, false) }) (v := ?vq6_47) rfl (by kernel_rfl) (by kernel_rfl) (by kernel_rfl) (fun _ _ _ h => h) (Or.inl ⟨by rfl, ?hq6_47⟩) (by assumption) ?_
                  case hq6_47 => intro w hSw; (try dsimp only at hSw); go_simp; try (with_reducible rfl)
                  (try simp only [Act.put, qA, qB, qC])
                  refine wpAnyH_take (i := 7) (oi := { dst := some 111, op := Op.load 44 (Operand.tmp 110), type := 44, pos := "law.go:179", after := #[{ on := 6, ground := Ground.data }, { on := 4, ground := Ground.guard }], guard := some (4, false) }) (v := ?vq7_48) rfl (by kernel_rfl) (by kernel_rfl) (by kernel_rfl) (fun _ _ _ h => h) (Or.inl ⟨by rfl, ?hq7_48⟩) (by assumption) ?_
                  case hq7_48 => intro w hSw; (try dsimp only at hSw); go_simp; try (with_reducible rfl)
                  (try simp only [Act.put, qA, qB, qC])
                  refine wpAnyH_take (i := 8) (oi := { dst := some 112, op := Op.indexAddr 44 (Operand.tmp 111) (Operand.const (Value.int IntKind.i64 0)), type := 0, pos := "law.go:179", after := #[{ on := 7, ground := Ground.data }, { on := 4, ground := Ground.guard }], guard := some (4, false) }) (v := ?vq8_49) rfl (by kernel_rfl) (by kernel_rfl) (by kernel_rfl) (fun _ _ _ h => h) (Or.inl ⟨by rfl, ?hq8_49⟩) (by assumption) ?_
                  case hq8_49 => intro w hSw; (try dsimp only at hSw); go_simp; try (with_reducible rfl)
                  (try simp only [Act.put, qA, qB, qC])
                  refine wpAnyH_take (i := 9) (oi := { dst := some 113, op := Op.load 46 (Operand.tmp 112), type := 46, pos := "law.go:179", after := #[{ on := 8, ground := Ground.data }, { on := 4, ground := Ground.guard }], guard := some (4, false) }) (v := ?vq9_50) rfl (by kernel_rfl) (by kernel_rfl) (by kernel_rfl) (fun _ _ _ h => h) (Or.inl ⟨by rfl, ?hq9_50⟩) (by assumption) ?_
                  case hq9_50 => intro w hSw; (try dsimp only at hSw); go_simp; try (with_reducible rfl)
                  (try simp only [Act.put, qA, qB, qC])
                  refine wpAnyH_ready (rs := [10]) (by kernel_rfl) (by simp) ?_
                  refine AllReadyH.cons (o := { dst := some 114, op := Op.call { callee := Callee.value (Operand.func 13), args := #[Operand.tmp 109, Operand.tmp 113], argTypes := #[46, 46] }, type := 4, pos := "law.go:179", after := #[{ on := 5, ground := Ground.data }, { on := 9, ground := Ground.data }, { on := 4, ground := Ground.chain }, { on := 4, ground := Ground.guard }], guard := some (4, false) }) rfl (fun K hK => ?_) AllReadyH.nil
                  go_simp
                  refine (HSM.out _ (by repeat (first | exact Below.refl _ _ | refine Below.drew ?_))).mono ?_
                  rintro e W9 ⟨rfl, hb9⟩
                  have HB9 := Lib.hid (((Below.refl W8.heap.size W8).drew).trans hb9)
                  clear hb9
                  refine hK.out _ _ ?_ (fun hHeld => ?_)
                  · exact HKP.out _ HB9.out
                  clear hK K
                  (try simp only [Act.put, qA, qB, qC])
                  refine wpAnyH_take (i := 11) (oi := { dst := some 115, op := Op.move (Operand.tmp 114), type := 4, pos := "law.go:179", after := #[{ on := 10, ground := Ground.data }, { on := 10, ground := Ground.chain }, { on := 4, ground := Ground.guard }], guard := some (4, false) }) (v := ?vq11_51) rfl (by kernel_rfl) (by kernel_rfl) (by kernel_rfl) (fun _ _ _ h => h) (Or.inl ⟨by rfl, ?hq11_51⟩) (by assumption) ?_
                  case hq11_51 => intro w hSw; (try dsimp only at hSw); go_simp; try (with_reducible rfl)
                  (try simp only [Act.put, qA, qB, qC])
                  refine wpAnyH_take (i := 12) (oi := { dst := some 116, op := Op.move (Operand.tmp 16), type := 4, pos := "law.go:179", after := #[{ on := 11, ground := Ground.guard }], guard := some (11, true) }) (v := ?vq12_52) rfl (by kernel_rfl) (by kernel_rfl) (by kernel_rfl) (fun _ _ _ h => h) (Or.inl ⟨by rfl, ?hq12_52⟩) (by assumption) ?_
                  case hq12_52 => intro w hSw; (try dsimp only at hSw); go_simp; try (with_reducible rfl)
                  (try simp only [Act.put, qA, qB, qC])
                  refine wpAnyH_take (i := 13) (oi := { dst := some 117, op := Op.move (Operand.tmp 12), type := 4, pos := "law.go:179", after := #[{ on := 11, ground := Ground.guard }], guard := some (11, true) }) (v := ?vq13_53) rfl (by kernel_rfl) (by kernel_rfl) (by kernel_rfl) (fun _ _ _ h => h) (Or.inl ⟨by rfl, ?hq13_53⟩) (by assumption) ?_
                  case hq13_53 => intro w hSw; (try dsimp only at hSw); go_simp; try (with_reducible rfl)
                  (try simp only [Act.put, qA, qB, qC])
                  refine wpAnyH_take (i := 14) (oi := { dst := some 118, op := Op.move (Operand.tmp 117), type := 4, pos := "law.go:179", after := #[{ on := 13, ground := Ground.data }, { on := 11, ground := Ground.chain }, { on := 11, ground := Ground.guard }], guard := some (11, true) }) (v := ?vq14_54) rfl (by kernel_rfl) (by kernel_rfl) (by kernel_rfl) (fun _ _ _ h => h) (Or.inl ⟨by rfl, ?hq14_54⟩) (by assumption) ?_
                  case hq14_54 => intro w hSw; (try dsimp only at hSw); go_simp; try (with_reducible rfl)
                  (try simp only [Act.put, qA, qB, qC])
                  refine wpAnyH_take (i := 15) (oi := { dst := some 119, op := Op.fieldAddr 46 (Operand.tmp 11) 0, type := 0, pos := "law.go:179", after := #[{ on := 14, ground := Ground.guard }], guard := some (14, false) }) (v := undef) rfl (by kernel_rfl) (by kernel_rfl) (by kernel_rfl) (fun _ _ _ h => h) (Or.inr ⟨by rfl, rfl⟩) (by assumption) ?_
                  (try simp only [Act.put, qA, qB, qC])
                  refine wpAnyH_take (i := 16) (oi := { dst := some 120, op := Op.load 43 (Operand.tmp 119), type := 43, pos := "law.go:179", after := #[{ on := 15, ground := Ground.data }, { on := 14, ground := Ground.guard }], guard := some (14, false) }) (v := undef) rfl (by kernel_rfl) (by kernel_rfl) (by kernel_rfl) (fun _ _ _ h => h) (Or.inr ⟨by rfl, rfl⟩) (by assumption) ?_
                  (try simp only [Act.put, qA, qB, qC])
                  refine wpAnyH_take (i := 17) (oi := { dst := some 121, op := Op.binOp BinOp.eql 43 (Operand.tmp 120) (Operand.const (Value.int IntKind.i64 5)) 43, type := 4, pos := "law.go:179", after := #[{ on := 16, ground := Ground.data }, { on := 14, ground := Ground.guard }], guard := some (14, false) }) (v := undef) rfl (by kernel_rfl) (by kernel_rfl) (by kernel_rfl) (fun _ _ _ h => h) (Or.inr ⟨by rfl, rfl⟩) (by assumption) ?_
                  (try simp only [Act.put, qA, qB, qC])
                  refine wpAnyH_take (i := 18) (oi := { dst := some 122, op := Op.pick (Operand.tmp 118) (Operand.const (Value.bool true)) (Operand.tmp 121), type := 4, pos := "law.go:179", after := #[{ on := 14, ground := Ground.data }, { on := 17, ground := Ground.data }, { on := 11, ground := Ground.guard }], guard := some (11, true) }) (v := ?vq18_55) rfl (by kernel_rfl) (by kernel_rfl) (by kernel_rfl) (fun _ _ _ h => h) (Or.inl ⟨by rfl, ?hq18_55⟩) (by assumption) ?_
                  case hq18_55 => intro w hSw; (try dsimp only at hSw); go_simp; try (with_reducible rfl)
                  (try simp only [Act.put, qA, qB, qC])
                  refine wpAnyH_take (i := 19) (oi := { dst := some 123, op := Op.binOp BinOp.eql 4 (Operand.tmp 116) (Operand.tmp 122) 4, type := 4, pos := "law.go:179", after := #[{ on := 12, ground := Ground.data }, { on := 18, ground := Ground.data }, { on := 11, ground := Ground.guard }], guard := some (11, true) }) (v := ?vq19_56) rfl (by kernel_rfl) (by kernel_rfl) (by kernel_rfl) (fun _ _ _ h => h) (Or.inl ⟨by rfl, ?hq19_56⟩) (by assumption) ?_
                  case hq19_56 => intro w hSw; (try dsimp only at hSw); go_simp; try (with_reducible rfl)
                  (try simp only [Act.put, qA, qB, qC])
                  refine wpAnyH_take (i := 20) (oi := { dst := some 124, op := Op.pick (Operand.tmp 115) (Operand.tmp 123) (Operand.const (Value.bool false)), type := 4, pos := "law.go:179", after := #[{ on := 11, ground := Ground.data }, { on := 19, ground := Ground.data }, { on := 4, ground := Ground.guard }], guard := some (4, false) }) (v := ?vq20_57) rfl (by kernel_rfl) (by kernel_rfl) (by kernel_rfl) (fun _ _ _ h => h) (Or.inl ⟨by rfl, ?hq20_57⟩) (by assumption) ?_
                  case hq20_57 => intro w hSw; (try dsimp only at hSw); go_simp; try (with_reducible rfl)
                  (try simp only [Act.put, qA, qB, qC])
                  refine wpAnyH_take (i := 21) (oi := { dst := some 125, op := Op.pick (Operand.tmp 108) (Operand.const (Value.bool true)) (Operand.tmp 124), type := 4, pos := "law.go:179", after := #[{ on := 4, ground := Ground.data }, { on := 20, ground := Ground.data }, { on := 1, ground := Ground.guard }], guard := some (1, true) }) (v := ?vq21_58) rfl (by kernel_rfl) (by kernel_rfl) (by kernel_rfl) (fun _ _ _ h => h) (Or.inl ⟨by rfl, ?hq21_58⟩) (by assumption) ?_
                  case hq21_58 => intro w hSw; (try dsimp only at hSw); go_simp; try (with_reducible rfl)
                  (try simp only [Act.put, qA, qB, qC])
                  refine wpAnyH_take (i := 22) (oi := { dst := some 126, op := Op.pick (Operand.tmp 105) (Operand.tmp 125) (Operand.const (Value.bool false)), type := 4, pos := "law.go:179", after := #[{ on := 1, ground := Ground.data }, { on := 21, ground := Ground.data }], guard := none }) (v := ?vq22_59) rfl (by kernel_rfl) (by kernel_rfl) (by kernel_rfl) (fun _ _ _ h => h) (Or.inl ⟨by rfl, ?hq22_59⟩) (by assumption) ?_
                  case hq22_59 => intro w hSw; (try dsimp only at hSw); go_simp; try (with_reducible rfl)
                  (try simp only [Act.put, qA, qB, qC])
                  refine wpAnyH_take (i := 23) (oi := { dst := some 8, op := Op.assign (Operand.tmp 126), type := 4, pos := "law.go:179", after := #[{ on := 22, ground := Ground.data }, { on := 14, ground := Ground.chain }, { on := 0, ground := Ground.phase }, { on := 1, ground := Ground.phase }, { on := 2, ground := Ground.phase }, { on := 3, ground := Ground.phase }, { on := 4, ground := Ground.phase }, { on := 5, ground := Ground.phase }, { on := 6, ground := Ground.phase }, { on := 7, ground := Ground.phase }, { on := 8, ground := Ground.phase }, { on := 9, ground := Ground.phase }, { on := 10, ground := Ground.phase }, { on := 11, ground := Ground.phase }, { on := 12, ground := Ground.phase }, { on := 13, ground := Ground.phase }, { on := 14, ground := Ground.phase }, { on := 15, ground := Ground.phase }, { on := 16, ground := Ground.phase }, { on := 17, ground := Ground.phase }, { on := 18, ground := Ground.phase }, { on := 19, ground := Ground.phase }, { on := 20, ground := Ground.phase }, { on := 21, ground := Ground.phase }, { on := 22, ground := Ground.phase }], guard := none }) (v := ?vq23_60) rfl (by kernel_rfl) (by kernel_rfl) (by kernel_rfl) (fun _ _ _ h => h) (Or.inl ⟨by rfl, ?hq23_60⟩) (by assumption) ?_
                  case hq23_60 => intro w hSw; (try dsimp only at hSw); go_simp; try (with_reducible rfl)
                  (try simp only [Act.put, qA, qB, qC])
                  refine wpAnyH_done (by kernel_rfl) ?_ _
                  go_wp2_with fail
                  go_ret
                  exact ⟨by first | done | rfl, HF.out.trans (HB9.out.mono HF.out.size)⟩
            · have e1 : (z == -1) = false := by simpa using hz1
              obtain ⟨rfl, hz0⟩ := intoR_field hz1 hI
              clear hz1 hI her2
              cases m with
              | true =>
                go_wp2
                go_ret
                exact ⟨by first | done | rfl, HF.out⟩
              | false =>
                go_wp2
                go_ret
                exact ⟨by first | done | rfl, HF.out⟩

end Go.Proofs.YtghkbihgdabamaaGreatDoor
