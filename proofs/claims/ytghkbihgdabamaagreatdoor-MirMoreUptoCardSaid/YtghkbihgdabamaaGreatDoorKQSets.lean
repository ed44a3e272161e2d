/-
  Several texts of the proof in one: QGoes, QSets. No conditions of their own: each lemma states its own.
-/
import Derived.Test.YtghkbihgdabamaaGreatDoorKQIsOf
import Derived.Test.YtghkbihgdabamaaGreatDoorKQValue
import Derived.Test.YtghkbihgdabamaaGreatDoorKQSett
namespace Go.Proofs.YtghkbihgdabamaaGreatDoor
open Go.RowKit

def aloneK : Option (Ty5 × Bool) → Int
  | some r => kdT r.1
  | none => 0
def goesB (s : So5) (n : Nat) (b : Bo) (x : Va) : Bool := aloneB (spotR s n b x.s) x.s.path.length && (aloneK (spotR s n b x.s) == 7 && noVaB ⟨x.k, x.h, x.uses, ⟨0, h0, []⟩, x.which, x.tag⟩)
theorem aloneK_of {y : Ty5} {R : Option (Ty5 × Bool)} {np : Nat} (h : ∀ r, R = some r → erTy y = r.1) (ha : aloneB R np = true) : aloneK R = kdT y := by
  cases R with
  | none => cases ha
  | some r =>
    have h1 := h r rfl
    show kdT r.1 = _
    rw [← h1, kdT_er]
theorem info_sp : (Tryz.prog.info? 33).map (·.size) = some 2 := by kernel_rfl
set_option maxRecDepth 100000 in
set_option maxHeartbeats 40000000 in
theorem goes_any (n : Nat) (s : So5) (b : Bo) (v : Nat) (x : Va) (w : World) (hs : SoH n w s) (hsn : SoN s) (hv : ViewAt w v s b) (hb : BoH n w b) (hx : VaH w x) :
    Calls Tryz.prog 128 #[.pointer (some ⟨v, 0, none⟩), vaV x] w fun e w' => e = .returned (.bool (goesB s n b x)) ∧ Below w.heap.size w w' := by
  unfold goesB
  have HAL := Lib.hid (show ∀ W, Below w.heap.size w W → Calls Tryz.prog 144 #[.pointer (some ⟨v, 0, none⟩), spV x.s] W fun e w' => Below W.heap.size W w' ∧ AloneP (fun _ => true) w' (spotR s n b x.s) x.s.path.length e from fun W hW =>
    alone_any _ n s b v x.s W (SoH.below hs hW) hsn (hv.below hW) (BoH.below hb hW) (SpH.below hx.2.2.1 hW) (fun _ _ => rfl) fun lo hlo => TyH.und n _ _ _ ⟨by rw [ebp_size]; exact hW.size, fun p x hx => (World.cell?_of_block (ebp_heap rfl)).trans ((hW.cell (World.block_lt_of_cell? w p hx)).trans hx)⟩ (hb.2.1.2.2.2 lo hlo))
  have hnv := fun W => isNoValue_any ⟨x.k, x.h, x.uses, ⟨0, h0, []⟩, x.which, x.tag⟩ W
  obtain ⟨R, hR⟩ : ∃ R, spotR s n b x.s = R := ⟨_, rfl⟩
  obtain ⟨B2, hB2⟩ : ∃ R, noVaB ⟨x.k, x.h, x.uses, ⟨0, h0, []⟩, x.which, x.tag⟩ = R := ⟨_, rfl⟩
  simp only [hR] at HAL ⊢
  simp only [hB2] at hnv ⊢
  obtain ⟨k, hu, uses, ⟨loc, ph, path⟩, which, tag⟩ := x
  obtain ⟨nu, hnu⟩ : ∃ n, uses.length = n := ⟨_, rfl⟩
  obtain ⟨np, hnp⟩ : ∃ n, path.length = n := ⟨_, rfl⟩
  obtain ⟨A, hA⟩ : ∃ R', aloneB R np = R' := ⟨_, rfl⟩
  simp only [vaV, vaC, spV, spC, List.cons_append, List.nil_append, hnu, hnp, hA] at HAL hnv ⊢
  change ∀ W, Calls _ _ #[.agg #[.int .i64 k, .slice hu.oa nu hu.cap, .int .i64 0, .slice none 0 0, .int .i64 which, .int .i64 tag]] W _ at hnv
  have HNV := Lib.hid hnv
  have HAA := Lib.hid hA
  obtain ⟨W0, hW⟩ : ∃ W, W = w.alloc (.cells #[.int .i64 k, .slice hu.oa nu hu.cap, .int .i64 loc, .slice ph.oa np ph.cap, .int .i64 which, .int .i64 tag] 37) := ⟨_, rfl⟩
  have hb0 : Below w.heap.size w W0 := by rw [hW]; exact alloc_below _ _
  have hx0 : W0.heap[w.heap.size]? = some (.cells #[.int .i64 k, .slice hu.oa nu hu.cap, .int .i64 loc, .slice ph.oa np ph.cap, .int .i64 which, .int .i64 tag] 37) := by rw [hW]; exact heap_alloc_new _ _
  obtain ⟨N, hN⟩ : ∃ N, N = w.heap.size := ⟨_, rfl⟩
  rw [← hN] at hx0
  have HB0 := Lib.hid (And.intro hb0 hx0)
  have HN1 := Lib.hid (show w.heap.size ≤ N by omega)
  obtain ⟨v0, v1, v2, v3, v4, v5⟩ : W0.cell? ⟨N, 0, none⟩ = some (.int .i64 k) ∧ W0.cell? ⟨N, 1, none⟩ = some (.slice hu.oa nu hu.cap) ∧ W0.cell? ⟨N, 2, none⟩ = some (.int .i64 loc) ∧ W0.cell? ⟨N, 2 + 1, none⟩ = some (.slice ph.oa np ph.cap) ∧ W0.cell? ⟨N, 4, none⟩ = some (.int .i64 which) ∧ W0.cell? ⟨N, 5, none⟩ = some (.int .i64 tag) := by
    refine ⟨?_, ?_, ?_, ?_, ?_, ?_⟩ <;> simp [World.cell?, hx0]
  clear hs hsn hv hb hx hb0 hx0 hR hB2 hA hnu hnp hnv
  go_enter Tryz.func128, Tryz.ntmps128
  go_upto_region 1 with fail
  rw [← hW]
  clear hW
  try simp only [← hN]
  clear hN
  go_upto_region 2 with
    (first
      | (go_loud (go_at_call 144; refine (HAL.out W0 HB0.out.1).mono ?_; rintro e W1 ⟨hb1, ⟨⟨k1, nm1, h1, l1⟩, g, rfl, hy1, hr1⟩⟩; simp only [tyV, tyC, HAA.out]; have HB1 := Lib.hid hb1; have HE := Lib.hid (And.intro hy1 hr1); clear hb1 hy1 hr1))
      | (go_loud (refine wpList_store_box rfl 46 (.tmp 5) (.tmp 12) rfl W1.heap.size 0 rfl (.agg #[.int .i64 k1, .string nm1, .slice h1.oa l1.length h1.cap]) rfl [.int .i64 k1, .string nm1, .slice h1.oa l1.length h1.cap] rfl [.int .i64 0, .string ⟨#[]⟩, .slice none 0 0] 46 (heap_alloc_new W1 (.cells #[.int .i64 0, .string ⟨#[]⟩, .slice none 0 0] 46)) (Nat.le_refl _) (show (Tryz.prog.info? 46).map (·.size) = some 3 by kernel_rfl) ?ca0 W1.heap.size (Nat.le_refl _) (W1.alloc (.cells #[.int .i64 0, .string ⟨#[]⟩, .slice none 0 0] 46)) (Below.refl _ _) ?_; rotate_left; intro W2 hb2 hbx hoth)))
  try case ca0 => first | exact ⟨rfl, rfl, rfl⟩ | (intro v hv; simp at hv; rcases hv with rfl | rfl | rfl <;> rfl)
  have hb12 : Below W1.heap.size W1 W2 := (alloc_below W1 (.cells #[.int .i64 0, .string ⟨#[]⟩, .slice none 0 0] 46)).trans hb2
  have hb02 : Below W0.heap.size W0 W2 := HB1.out.trans (hb12.mono HB1.out.size)
  have H2 := Lib.hid (And.intro ((hb02.block N (blk_lt HB0.out.2)).trans HB0.out.2) (HB0.out.1.trans (hb02.mono HB0.out.1.size)))
  obtain ⟨M, hM⟩ : ∃ M, M = W1.heap.size := ⟨_, rfl⟩
  have HNM := Lib.hid (show M ≠ N by have h1 := blk_lt HB0.out.2; have h2 := HB1.out.size; omega)
  rw [← hM] at hbx
  try simp only [← hM]
  have HBX := Lib.hid hbx
  clear hb12 hb02 hb2 hoth hM hbx v0 v1 v2 v3 v4 v5
  go_upto_region 3 with (go_loud (refine wpList_store_box rfl 33 (.tmp 15) (.tmp 14) rfl N 2 rfl (.agg #[.int .i64 0, .slice none 0 0]) rfl [.int .i64 0, .slice none 0 0] rfl [.int .i64 k, .slice hu.oa nu hu.cap, .int .i64 loc, .slice ph.oa np ph.cap, .int .i64 which, .int .i64 tag] 37 H2.out.1 (by simp) info_sp ?cb0 w.heap.size HN1.out W2 (Below.refl _ _) ?_; rotate_left; intro W3 hb3 hbx hoth))
  try case cb0 => intro v hv; simp at hv; rcases hv with rfl | rfl <;> rfl
  have hx3 : W3.heap[N]? = some (.cells #[.int .i64 k, .slice hu.oa nu hu.cap, .int .i64 0, .slice none 0 0, .int .i64 which, .int .i64 tag] 37) := hbx
  have hm3 := (hoth M HNM.out).trans HBX.out
  obtain ⟨v0, v1, v2, v3, v4, v5⟩ : W3.cell? ⟨N, 0, none⟩ = some (.int .i64 k) ∧ W3.cell? ⟨N, 1, none⟩ = some (.slice hu.oa nu hu.cap) ∧ W3.cell? ⟨N, 2, none⟩ = some (.int .i64 0) ∧ W3.cell? ⟨N, 3, none⟩ = some (.slice none 0 0) ∧ W3.cell? ⟨N, 4, none⟩ = some (.int .i64 which) ∧ W3.cell? ⟨N, 5, none⟩ = some (.int .i64 tag) := by
    refine ⟨?_, ?_, ?_, ?_, ?_, ?_⟩ <;> simp [World.cell?, hx3]
  obtain ⟨m0, m1, m2, mf, ml⟩ := cells3p hm3
  have H3 := Lib.hid (H2.out.2.trans hb3)
  clear hb3 hbx hoth hx3 hm3
  cases A with
  | false =>
    go_wp2
    go_ret
    exact ⟨rfl, H3.out⟩
  | true =>
    have HK := Lib.hid (show aloneK R = k1 from aloneK_of HE.out.2 HAA.out)
    cases e7 : (k1 == 7) with
    | false =>
      go_wp2
      go_ret
      exact ⟨by rw [HK.out, e7]; rfl, H3.out⟩
    | true =>
      go_wp2_with (go_at_call 99; refine (HNV.out W3).mono ?_; rintro e W4 ⟨rfl, hb4⟩; have HB4 := Lib.hid hb4; clear hb4)
      go_ret
      exact ⟨by rw [HK.out, e7]; rfl, H3.out.trans (HB4.out.mono H3.out.size)⟩

end Go.Proofs.YtghkbihgdabamaaGreatDoor

namespace Go.Proofs.YtghkbihgdabamaaGreatDoor
open Go.RowKit

def setsO : Option (Ty5 × Bool) → Int × Ty5 → Bool
  | some r, z => (z.1 == 0) && tyEq z.2 r.1
  | none, _ => false
def setsB (s : So5) (n : Nat) (b : Bo) (x : Sp) (v : Va) : Bool := cond (decide ((x.path.length : Int) > 0) && !settB (spotR s n b x)) false (setsO (spotR s n b x) (valR s n b v))
set_option maxRecDepth 100000 in
set_option maxHeartbeats 40000000 in
theorem sets_any (n : Nat) (s : So5) (b : Bo) (v : Nat) (x : Sp) (z : Va) (w : World) (hs : SoH n w s) (hsn : SoN s) (hv : ViewAt w v s b) (hb : BoH n w b) (hx : SpH w x) (hz : VaH w z) :
    Calls Tryz.prog 101 #[.pointer (some ⟨v, 0, none⟩), spV x, vaV z] w fun e w' => e = .returned (.bool (setsB s n b x z)) ∧ Below w.heap.size w w' := by
  unfold setsB
  have hse := fun W h1 => isSettable_any n s b v x W (SoH.below hs h1) hsn (hv.below h1) (BoH.below hb h1) (SpH.below hx h1)
  have hsp := fun W h1 => spot_any n s b v x W (SoH.below hs h1) hsn (hv.below h1) (BoH.below hb h1) (SpH.below hx h1)
  have hva := fun W (h1 : Below w.heap.size w W) => value_any (fun _ => true) n s b v z W (SoH.below hs h1) hsn (hv.below h1) (BoH.below hb h1) (VaH.below hz h1) (fun _ _ => rfl) fun lo hlo => TyH.und n _ _ _ ⟨by rw [ebp_size]; exact h1.size, fun p x hx => (World.cell?_of_block (ebp_heap rfl)).trans ((h1.cell (World.block_lt_of_cell? w p hx)).trans hx)⟩ (hb.2.1.2.2.2 lo hlo)
  obtain ⟨R, hR⟩ : ∃ R, spotR s n b x = R := ⟨_, rfl⟩
  obtain ⟨Z, hZ⟩ : ∃ R, valR s n b z = R := ⟨_, rfl⟩
  simp only [hR] at hse hsp ⊢
  simp only [hZ] at hva ⊢
  obtain ⟨S, hS⟩ : ∃ R', settB R = R' := ⟨_, rfl⟩
  simp only [hS] at hse ⊢
  obtain ⟨loc, ph, path⟩ := x
  obtain ⟨k, hu, uses, ⟨loc2, ph2, path2⟩, which, tag⟩ := z
  obtain ⟨nu, hnu⟩ : ∃ n, uses.length = n := ⟨_, rfl⟩
  obtain ⟨np, hnp⟩ : ∃ n, path.length = n := ⟨_, rfl⟩
  obtain ⟨np2, hnp2⟩ : ∃ n, path2.length = n := ⟨_, rfl⟩
  have hlp : np ≤ 9223372036854775807 := by
    have h1 : path.length ≤ ph.cap := hx.2.1
    have h2 : ph.cap ≤ maxLen := hx.2.2.1
    unfold maxLen at h2
    omega
  simp only [vaV, vaC, spV, spC, List.cons_append, List.nil_append, hnu, hnp, hnp2] at hse hsp hva ⊢
  have HSE := Lib.hid hse
  have HSP := Lib.hid hsp
  have HVA := Lib.hid hva
  obtain ⟨W0, hW⟩ : ∃ W, W = (w.alloc (.cells #[.int .i64 loc, .slice ph.oa np ph.cap] 33)).alloc (.cells #[.int .i64 k, .slice hu.oa nu hu.cap, .int .i64 loc2, .slice ph2.oa np2 ph2.cap, .int .i64 which, .int .i64 tag] 37) := ⟨_, rfl⟩
  obtain ⟨hb0, hx0, hx1⟩ := pal2 w (.cells #[.int .i64 loc, .slice ph.oa np ph.cap] 33) (.cells #[.int .i64 k, .slice hu.oa nu hu.cap, .int .i64 loc2, .slice ph2.oa np2 ph2.cap, .int .i64 which, .int .i64 tag] 37)
  rw [← hW] at hb0 hx0 hx1
  obtain ⟨N, hN⟩ : ∃ N, N = w.heap.size := ⟨_, rfl⟩
  rw [← hN] at hx0 hx1
  have HB0 := Lib.hid (And.intro hb0 (And.intro hx0 hx1))
  clear hs hsn hv hb hx hz hse hsp hva hR hZ hS hnu hnp hnp2 hb0
  obtain ⟨p0, p1, pf, pl⟩ := cells2p hx0
  clear hx0 hx1
  obtain ⟨D, hD⟩ : ∃ D, decide ((np : Int) > 0) = D := ⟨_, rfl⟩
  rw [hD]
  have hD2 : if D = true then 0 < np else ¬ 0 < np := by
    cases D with
    | true => have h := of_decide_eq_true hD; rw [if_pos rfl]; omega
    | false => have h := of_decide_eq_false hD; rw [if_neg (by decide)]; omega
  clear hD
  go_enter Tryz.func101, Tryz.ntmps101
  go_upto_region 1 with fail
  rw [← hW]
  clear hW
  try simp only [← hN]
  clear hN
  clear hlp
  cases D with
  | true =>
    have hnp0 : 0 < np := hD2
    clear hD2
    cases S with
    | false =>
      go_wp2_with (go_loud (go_at_call 125; refine (HSE.out W0 HB0.out.1).mono ?_; rintro e W1 ⟨rfl, hb1⟩; have HB1 := Lib.hid hb1; clear hb1))
      go_ret
      exact ⟨rfl, HB0.out.1.trans (HB1.out.mono HB0.out.1.size)⟩
    | true =>
      go_upto_region 3 with (go_loud (go_at_call 125; refine (HSE.out W0 HB0.out.1).mono ?_; rintro e W1 ⟨rfl, hb1⟩; have HX1 := Lib.hid (And.intro (HB0.out.1.trans (hb1.mono HB0.out.1.size)) (And.intro ((hb1.block N (blk_lt HB0.out.2.1)).trans HB0.out.2.1) ((hb1.block (N + 1) (blk_lt HB0.out.2.2)).trans HB0.out.2.2))); clear hb1))
      clear p0 p1 pf pl
      obtain ⟨p0, p1, pf, pl⟩ := cells2p HX1.out.2.1
      go_upto_region 4 with
        (first
          | (go_loud (go_at_call 24; refine (HSP.out W1 HX1.out.1).mono ?_; rintro e W2 ⟨hb2, hp2⟩; obtain ⟨⟨k1, nm1, h1, l1⟩, sh, er, f, rfl, ht1, hr1⟩ := hp2.val; simp only [tyV, tyC]; have HB2 := Lib.hid hb2; have HT := Lib.hid (And.intro ht1 hr1); clear hb2 hp2 ht1 hr1))
          | (go_loud (refine wpList_store_box rfl 46 (.tmp 7) (.tmp 26) rfl W2.heap.size 0 rfl (.agg #[.int .i64 k1, .string nm1, .slice h1.oa l1.length h1.cap]) rfl [.int .i64 k1, .string nm1, .slice h1.oa l1.length h1.cap] rfl [.int .i64 0, .string ⟨#[]⟩, .slice none 0 0] 46 (heap_alloc_new W2 (.cells #[.int .i64 0, .string ⟨#[]⟩, .slice none 0 0] 46)) (Nat.le_refl _) (show (Tryz.prog.info? 46).map (·.size) = some 3 by kernel_rfl) ?ca0 W2.heap.size (Nat.le_refl _) (W2.alloc (.cells #[.int .i64 0, .string ⟨#[]⟩, .slice none 0 0] 46)) (Below.refl _ _) ?_; rotate_left; intro W3 hb3 hbx hoth)))
      try case ca0 => first | exact ⟨rfl, rfl, rfl⟩ | (intro v hv; simp at hv; rcases hv with rfl | rfl | rfl <;> rfl)
      have hb23 : Below W2.heap.size W2 W3 := (alloc_below W2 (.cells #[.int .i64 0, .string ⟨#[]⟩, .slice none 0 0] 46)).trans hb3
      have hb13 : Below W1.heap.size W1 W3 := HB2.out.trans (hb23.mono HB2.out.size)
      have H3 := Lib.hid (And.intro (HX1.out.1.trans (hb13.mono HX1.out.1.size)) (And.intro hb23 (And.intro ((hb13.block (N + 1) (blk_lt HX1.out.2.2)).trans HX1.out.2.2) ((hb13.block N (blk_lt HX1.out.2.1)).trans HX1.out.2.1))))
      obtain ⟨M, hM⟩ : ∃ M, M = W2.heap.size := ⟨_, rfl⟩
      rw [← hM] at hbx
      try simp only [← hM]
      have HM := Lib.hid hbx
      clear hb23 hb13 hb3 hoth hM hbx p0 p1 pf pl
      have hy1 := H3.out.2.2.1
      obtain ⟨v0, v1, v2, v3, v4, v5⟩ : W3.cell? ⟨N + 1, 0, none⟩ = some (.int .i64 k) ∧ W3.cell? ⟨N + 1, 1, none⟩ = some (.slice hu.oa nu hu.cap) ∧ W3.cell? ⟨N + 1, 2, none⟩ = some (.int .i64 loc2) ∧ W3.cell? ⟨N + 1, 3, none⟩ = some (.slice ph2.oa np2 ph2.cap) ∧ W3.cell? ⟨N + 1, 4, none⟩ = some (.int .i64 which) ∧ W3.cell? ⟨N + 1, 5, none⟩ = some (.int .i64 tag) := by
        refine ⟨?_, ?_, ?_, ?_, ?_, ?_⟩ <;> simp [World.cell?, hy1]
      clear hy1
      go_upto_region 5 with
        (first
          | (go_loud (go_at_call 28; refine (HVA.out W3 H3.out.1).mono ?_; rintro e W4 ⟨hb4, ⟨⟨k2, nm2, h2, l2⟩, er2, f2, rfl, her, hok, ht2⟩⟩; simp only [tyV, tyC]; have HB4 := Lib.hid hb4; have HE := Lib.hid (And.intro her (And.intro hok (TyH.und f2 _ _ _ (ebp_out (Nat.le_refl _) fun _ _ => rfl) ht2))); clear hb4 her hok ht2))
          | (go_loud (refine wpList_store_box rfl 46 (.tmp 10) (.tmp 33) rfl W4.heap.size 0 rfl (.agg #[.int .i64 k2, .string nm2, .slice h2.oa l2.length h2.cap]) rfl [.int .i64 k2, .string nm2, .slice h2.oa l2.length h2.cap] rfl [.int .i64 0, .string ⟨#[]⟩, .slice none 0 0] 46 (heap_alloc_new W4 (.cells #[.int .i64 0, .string ⟨#[]⟩, .slice none 0 0] 46)) (Nat.le_refl _) (show (Tryz.prog.info? 46).map (·.size) = some 3 by kernel_rfl) ?ca1 W4.heap.size (Nat.le_refl _) (W4.alloc (.cells #[.int .i64 0, .string ⟨#[]⟩, .slice none 0 0] 46)) (Below.refl _ _) ?_; rotate_left; intro W5 hb5 hbx hoth)))
      try case ca1 => first | exact ⟨rfl, rfl, rfl⟩ | (intro v hv; simp at hv; rcases hv with rfl | rfl | rfl <;> rfl)
      have hb45 : Below W4.heap.size W4 W5 := (alloc_below W4 (.cells #[.int .i64 0, .string ⟨#[]⟩, .slice none 0 0] 46)).trans hb5
      have hb35 : Below W3.heap.size W3 W5 := HB4.out.trans (hb45.mono HB4.out.size)
      have hm5 := (hb35.block M (blk_lt HM.out)).trans HM.out
      obtain ⟨M2, hM2⟩ : ∃ M, M = W4.heap.size := ⟨_, rfl⟩
      rw [← hM2] at hbx
      try simp only [← hM2]
      obtain ⟨m0, m1, m2, mf, ml⟩ := cells3p hm5
      obtain ⟨o0, o1, o2, of, ol⟩ := cells3p hbx
      have H5 := Lib.hid (H3.out.1.trans (hb35.mono H3.out.1.size))
      have hsm := sameType_any (max f f2) (.mk k2 nm2 h2 l2) (.mk k1 nm1 h1 l1) W5 (TyH.below _ (TyH.le (Nat.le_max_right _ _) HE.out.2.2) hb45) (TyH.below _ (TyH.le (Nat.le_max_left _ _) HT.out.1) (H3.out.2.1.trans (hb35.mono H3.out.2.1.size)))
      simp only [tyV, tyC] at hsm
      clear hb45 hb35 hm5 hb5 hbx hoth hM2 v0 v1 v2 v3 v4 v5
      cases R with
      | none =>
        obtain ⟨-, -, rfl⟩ := HT.out.2
        clear hsm
        go_wp2
        go_ret
        exact ⟨rfl, H5.out⟩
      | some r =>
        obtain ⟨hy, -, rfl⟩ := HT.out.2
        cases e2 : (er2 == 0) with
        | false =>
          clear hsm
          have H2 := Lib.hid hy
          clear hy
          go_wp2
          go_ret
          exact ⟨by simp only [setsO, ← HE.out.1, e2]; rfl, H5.out⟩
        | true =>
          have h20 : Z.1 = 0 := by rw [← HE.out.1]; simpa using e2
          have hq : tyEq (.mk k2 nm2 h2 l2) (.mk k1 nm1 h1 l1) = tyEq Z.2 r.1 := by rw [← hy, ← HE.out.2.1 h20, tyEq_er]
          rw [hq] at hsm
          have HSM := Lib.hid hsm
          have HQ := Lib.hid hy
          clear hy hsm hq h20
          go_wp2_with (go_loud (go_at_call 122; refine HSM.out.mono ?_; rintro e W6 ⟨rfl, hb6⟩; have HB6 := Lib.hid hb6; clear hb6))
          go_ret
          exact ⟨by simp only [setsO, ← HE.out.1, e2]; rfl, H5.out.trans (HB6.out.mono H5.out.size)⟩
  | false =>
    have hnp0 : ¬ 0 < np := hD2
    clear hD2
    obtain ⟨W1, hW1⟩ : ∃ W1, W1 = W0 := ⟨_, rfl⟩
    have HX1 := Lib.hid (show Below w.heap.size w W1 ∧ W1.heap[N]? = some (.cells #[.int .i64 loc, .slice ph.oa np ph.cap] 33) ∧ W1.heap[N + 1]? = some (.cells #[.int .i64 k, .slice hu.oa nu hu.cap, .int .i64 loc2, .slice ph2.oa np2 ph2.cap, .int .i64 which, .int .i64 tag] 37) by rw [hW1]; exact HB0.out)
    go_upto_region 3 with fail
    rw [← hW1]
    clear hW1
    clear p0 p1 pf pl
    obtain ⟨p0, p1, pf, pl⟩ := cells2p HX1.out.2.1
    go_upto_region 4 with
      (first
        | (go_loud (go_at_call 24; refine (HSP.out W1 HX1.out.1).mono ?_; rintro e W2 ⟨hb2, hp2⟩; obtain ⟨⟨k1, nm1, h1, l1⟩, sh, er, f, rfl, ht1, hr1⟩ := hp2.val; simp only [tyV, tyC]; have HB2 := Lib.hid hb2; have HT := Lib.hid (And.intro ht1 hr1); clear hb2 hp2 ht1 hr1))
        | (go_loud (refine wpList_store_box rfl 46 (.tmp 7) (.tmp 26) rfl W2.heap.size 0 rfl (.agg #[.int .i64 k1, .string nm1, .slice h1.oa l1.length h1.cap]) rfl [.int .i64 k1, .string nm1, .slice h1.oa l1.length h1.cap] rfl [.int .i64 0, .string ⟨#[]⟩, .slice none 0 0] 46 (heap_alloc_new W2 (.cells #[.int .i64 0, .string ⟨#[]⟩, .slice none 0 0] 46)) (Nat.le_refl _) (show (Tryz.prog.info? 46).map (·.size) = some 3 by kernel_rfl) ?cc0 W2.heap.size (Nat.le_refl _) (W2.alloc (.cells #[.int .i64 0, .string ⟨#[]⟩, .slice none 0 0] 46)) (Below.refl _ _) ?_; rotate_left; intro W3 hb3 hbx hoth)))
    try case cc0 => first | exact ⟨rfl, rfl, rfl⟩ | (intro v hv; simp at hv; rcases hv with rfl | rfl | rfl <;> rfl)
    have hb23 : Below W2.heap.size W2 W3 := (alloc_below W2 (.cells #[.int .i64 0, .string ⟨#[]⟩, .slice none 0 0] 46)).trans hb3
    have hb13 : Below W1.heap.size W1 W3 := HB2.out.trans (hb23.mono HB2.out.size)
    have H3 := Lib.hid (And.intro (HX1.out.1.trans (hb13.mono HX1.out.1.size)) (And.intro hb23 (And.intro ((hb13.block (N + 1) (blk_lt HX1.out.2.2)).trans HX1.out.2.2) ((hb13.block N (blk_lt HX1.out.2.1)).trans HX1.out.2.1))))
    obtain ⟨M, hM⟩ : ∃ M, M = W2.heap.size := ⟨_, rfl⟩
    rw [← hM] at hbx
    try simp only [← hM]
    have HM := Lib.hid hbx
    clear hb23 hb13 hb3 hoth hM hbx p0 p1 pf pl
    have hy1 := H3.out.2.2.1
    obtain ⟨v0, v1, v2, v3, v4, v5⟩ : W3.cell? ⟨N + 1, 0, none⟩ = some (.int .i64 k) ∧ W3.cell? ⟨N + 1, 1, none⟩ = some (.slice hu.oa nu hu.cap) ∧ W3.cell? ⟨N + 1, 2, none⟩ = some (.int .i64 loc2) ∧ W3.cell? ⟨N + 1, 3, none⟩ = some (.slice ph2.oa np2 ph2.cap) ∧ W3.cell? ⟨N + 1, 4, none⟩ = some (.int .i64 which) ∧ W3.cell? ⟨N + 1, 5, none⟩ = some (.int .i64 tag) := by
      refine ⟨?_, ?_, ?_, ?_, ?_, ?_⟩ <;> simp [World.cell?, hy1]
    clear hy1
    go_upto_region 5 with
      (first
        | (go_loud (go_at_call 28; refine (HVA.out W3 H3.out.1).mono ?_; rintro e W4 ⟨hb4, ⟨⟨k2, nm2, h2, l2⟩, er2, f2, rfl, her, hok, ht2⟩⟩; simp only [tyV, tyC]; have HB4 := Lib.hid hb4; have HE := Lib.hid (And.intro her (And.intro hok (TyH.und f2 _ _ _ (ebp_out (Nat.le_refl _) fun _ _ => rfl) ht2))); clear hb4 her hok ht2))
        | (go_loud (refine wpList_store_box rfl 46 (.tmp 10) (.tmp 33) rfl W4.heap.size 0 rfl (.agg #[.int .i64 k2, .string nm2, .slice h2.oa l2.length h2.cap]) rfl [.int .i64 k2, .string nm2, .slice h2.oa l2.length h2.cap] rfl [.int .i64 0, .string ⟨#[]⟩, .slice none 0 0] 46 (heap_alloc_new W4 (.cells #[.int .i64 0, .string ⟨#[]⟩, .slice none 0 0] 46)) (Nat.le_refl _) (show (Tryz.prog.info? 46).map (·.size) = some 3 by kernel_rfl) ?cc1 W4.heap.size (Nat.le_refl _) (W4.alloc (.cells #[.int .i64 0, .string ⟨#[]⟩, .slice none 0 0] 46)) (Below.refl _ _) ?_; rotate_left; intro W5 hb5 hbx hoth)))
    try case cc1 => first | exact ⟨rfl, rfl, rfl⟩ | (intro v hv; simp at hv; rcases hv with rfl | rfl | rfl <;> rfl)
    have hb45 : Below W4.heap.size W4 W5 := (alloc_below W4 (.cells #[.int .i64 0, .string ⟨#[]⟩, .slice none 0 0] 46)).trans hb5
    have hb35 : Below W3.heap.size W3 W5 := HB4.out.trans (hb45.mono HB4.out.size)
    have hm5 := (hb35.block M (blk_lt HM.out)).trans HM.out
    obtain ⟨M2, hM2⟩ : ∃ M, M = W4.heap.size := ⟨_, rfl⟩
    rw [← hM2] at hbx
    try simp only [← hM2]
    obtain ⟨m0, m1, m2, mf, ml⟩ := cells3p hm5
    obtain ⟨o0, o1, o2, of, ol⟩ := cells3p hbx
    have H5 := Lib.hid (H3.out.1.trans (hb35.mono H3.out.1.size))
    have hsm := sameType_any (max f f2) (.mk k2 nm2 h2 l2) (.mk k1 nm1 h1 l1) W5 (TyH.below _ (TyH.le (Nat.le_max_right _ _) HE.out.2.2) hb45) (TyH.below _ (TyH.le (Nat.le_max_left _ _) HT.out.1) (H3.out.2.1.trans (hb35.mono H3.out.2.1.size)))
    simp only [tyV, tyC] at hsm
    clear hb45 hb35 hm5 hb5 hbx hoth hM2 v0 v1 v2 v3 v4 v5
    cases R with
    | none =>
      obtain ⟨-, -, rfl⟩ := HT.out.2
      clear hsm
      go_wp2
      go_ret
      exact ⟨rfl, H5.out⟩
    | some r =>
      obtain ⟨hy, -, rfl⟩ := HT.out.2
      cases e2 : (er2 == 0) with
      | false =>
        clear hsm
        have H2 := Lib.hid hy
        clear hy
        go_wp2
        go_ret
        exact ⟨by simp only [setsO, ← HE.out.1, e2]; rfl, H5.out⟩
      | true =>
        have h20 : Z.1 = 0 := by rw [← HE.out.1]; simpa using e2
        have hq : tyEq (.mk k2 nm2 h2 l2) (.mk k1 nm1 h1 l1) = tyEq Z.2 r.1 := by rw [← hy, ← HE.out.2.1 h20, tyEq_er]
        rw [hq] at hsm
        have HSM := Lib.hid hsm
        have HQ := Lib.hid hy
        clear hy hsm hq h20
        go_wp2_with (go_loud (go_at_call 122; refine HSM.out.mono ?_; rintro e W6 ⟨rfl, hb6⟩; have HB6 := Lib.hid hb6; clear hb6))
        go_ret
        exact ⟨by simp only [setsO, ← HE.out.1, e2]; rfl, H5.out.trans (HB6.out.mono H5.out.size)⟩

end Go.Proofs.YtghkbihgdabamaaGreatDoor
