/-
  mir's ofSpot: what a value makes of its spot. Conditions: the view, its source, its body and the value lie in the heap; no declared type is too large.
-/
import Derived.Test.YtghkbihgdabamaaGreatDoorKQUnbox
namespace Go.Proofs.YtghkbihgdabamaaGreatDoor
open Go.RowKit

def ofSpR (R : Option (Ty5 × Bool)) (k : Int) (np : Nat) : Int × Ty5 := match R with
  | none => (84, ty0)
  | some r => if k = 9 then unboxR r.1 np else if holdsT r.1 = true then (73, r.1) else if k = 6 then (0, .mk 5 nil5 h0 [r.1]) else if r.2 = true then (84, r.1) else (0, .mk 6 nil5 h0 [r.1])
/-- a type of one type, which stands in a block of its own -/
theorem boxed_out (kf : Nat → Bool) (K : Int) (f : Nat) (WF : World) (M : Nat) (y : Ty5) (R : Int × Ty5) (e : Ending) (hbl : WF.heap[M]? = some (.cells (tyC y).toArray 46)) (hkM : kf M = true) (hy : TyH f (ebp WF kf) y) (hR : (0, .mk K nil5 h0 [erTy y]) = R) (he : e = .returned (.tuple #[.agg #[.int .i64 K, .string ⟨#[]⟩, .slice (some ⟨M, 0, none⟩) 1 1], .int .i64 0])) (hK : I64 K) : OutP kf WF R e := by
  obtain ⟨k1, nm1, h1, l1⟩ := y
  simp only [tyC] at hbl
  obtain ⟨c0, c1, c2, -, -⟩ := cells3p hbl
  have hcc : ∀ j z, WF.cell? ⟨M, j, none⟩ = some z → (ebp WF kf).cell? ⟨M, j, none⟩ = some z := fun j z h => (World.cell?_of_block (a := ⟨M, j, none⟩) (ebp_heap hkM)).trans h
  subst hR
  refine ⟨.mk K ⟨#[]⟩ ⟨some ⟨M, 0, none⟩, 1⟩ [.mk k1 nm1 h1 l1], 0, f + 1, he, rfl, fun _ => ?_, ⟨hK, Nat.le_refl _, (show (1 : Nat) ≤ maxLen by unfold maxLen; decide), fun _ => ⟨M, 0, rfl, by rw [ebp_size]; exact blk_lt hbl, fun i x hx j u hu => ?_⟩, fun x hx => ?_⟩⟩
  · show erTy _ = _
    rw [erTy, erTys, erTys]
    rfl
  · cases i with
    | zero =>
      obtain rfl : _ = x := by simpa using hx
      simp only [Nat.zero_mul, Nat.zero_add]
      match j, hu with
      | 0, hu => simp [tyC] at hu; subst hu; exact hcc _ _ c0
      | 1, hu => simp [tyC] at hu; subst hu; exact hcc _ _ c1
      | 2, hu => simp [tyC] at hu; subst hu; exact hcc _ _ c2
      | j + 3, hu => simp [tyC] at hu
    | succ i => simp at hx
  · obtain rfl := List.mem_singleton.1 hx
    exact hy
set_option maxRecDepth 100000 in
set_option maxHeartbeats 40000000 in
theorem ofSpot_any (kf : Nat → Bool) (m : Nat) (s : So5) (b : Bo) (v : Nat) (x : Va) (w : World) (hs : SoH m w s) (hsn : SoN s) (hv : ViewAt w v s b) (hb : BoH m w b) (hx : VaH w x) (hk : ∀ y, w.heap.size ≤ y → kf y = true) (hbk : ∀ lo ∈ b.locals, TyH m (ebp w kf) lo.ty) :
    Calls Tryz.prog 88 #[.pointer (some ⟨v, 0, none⟩), vaV x] w fun e w' => Below w.heap.size w w' ∧ OutP kf w' (ofSpR (spotR s m b x.s) x.k x.s.path.length) e := by
  obtain ⟨k, hu, uses, xs, which, tag⟩ := x
  obtain ⟨-, -, hxs, -, -⟩ := hx
  dsimp only at hxs ⊢
  obtain ⟨R0, hR0⟩ : ∃ R, spotR s m b xs = R := ⟨_, rfl⟩
  obtain ⟨R, hR⟩ : ∃ R, ofSpR R0 k xs.path.length = R := ⟨_, rfl⟩
  rw [hR0, hR]
  obtain ⟨nu, hnu⟩ : ∃ n, uses.length = n := ⟨_, rfl⟩
  have hsp := fun W kf' h1 h2 h3 => spotK_any kf' m s b v xs W (SoH.below hs h1) hsn (hv.below h1) (BoH.below hb h1) (SpH.below hxs h1) h2 h3
  have hpl : xs.path.length ≤ maxLen := Nat.le_trans hxs.2.1 hxs.2.2.1
  have hub := fun (f : Nat) (y : Ty5) (W : World) kf' h1 h2 => unboxed_any kf' f y xs W h1 h2 hpl
  rw [hR0] at hsp
  obtain ⟨loc, ph, path⟩ := xs
  obtain ⟨np, hnp⟩ : ∃ n, path.length = n := ⟨_, rfl⟩
  dsimp only at hR hpl hub
  rw [hnp] at hR hpl
  simp only [vaV, vaC, spV, spC, List.cons_append, List.nil_append, hnu, hnp] at hsp hub ⊢
  obtain ⟨W0, hW⟩ : ∃ W, W = (w.alloc (.cells #[.int .i64 k, .slice hu.oa nu hu.cap, .int .i64 loc, .slice ph.oa np ph.cap, .int .i64 which, .int .i64 tag] 37)).alloc (.cells #[.int .i64 0, .string ⟨#[]⟩, .slice none 0 0] 46) := ⟨_, rfl⟩
  obtain ⟨hb0, hx0, hx1⟩ := pal2 w (.cells #[.int .i64 k, .slice hu.oa nu hu.cap, .int .i64 loc, .slice ph.oa np ph.cap, .int .i64 which, .int .i64 tag] 37) (.cells #[.int .i64 0, .string ⟨#[]⟩, .slice none 0 0] 46)
  rw [← hW] at hb0 hx0 hx1
  have hsz : W0.heap.size = w.heap.size + 2 := by rw [hW]; simp
  obtain ⟨N, hN⟩ : ∃ N, N = w.heap.size := ⟨_, rfl⟩
  rw [← hN] at hx0 hx1 hsz
  have hcall := hsp W0 (fun q => kf q && q != N + 1) hb0 (fun y hy => by
      have h1 := hk y (by omega)
      have h2 : y ≠ N + 1 := by omega
      simp [h1, h2]) (fun lo hlo => TyH.und m _ _ _ (ebp_und hb0.size fun q hq hf => ⟨by
        have h2 : q ≠ N + 1 := by omega
        simp [hf, h2], hb0.block q hq⟩) (hbk lo hlo))
  have HCL := Lib.hid hcall
  have HUB := Lib.hid hub
  have HB0 := Lib.hid (And.intro hb0 (And.intro hx0 hx1))
  have HN1 := Lib.hid (show w.heap.size ≤ N + 1 by omega)
  have HK := Lib.hid hk
  have HR := Lib.hid hR
  obtain ⟨v0, v2, v3⟩ : W0.cell? ⟨N, 0, none⟩ = some (.int .i64 k) ∧ W0.cell? ⟨N, 2, none⟩ = some (.int .i64 loc) ∧ W0.cell? ⟨N, 3, none⟩ = some (.slice ph.oa np ph.cap) := by
    refine ⟨?_, ?_, ?_⟩ <;> simp [World.cell?, hx0]
  clear hs hsn hv hb hxs hk hbk hb0 hx0 hx1 hsz hcall hsp hub hR hR0 hnu hnp hpl
  go_enter Tryz.func88, Tryz.ntmps88
  go_upto_region 1 with fail
  rw [← hW]
  clear hW
  try simp only [← hN]
  clear hN
  cases R0 with
  | none =>
    go_upto_region 2 with
      (first
        | (go_loud (go_at_call 24; refine HCL.out.mono ?_; rintro e W1 ⟨hb1, rfl⟩; have HB1 := Lib.hid hb1; clear hb1))
        | (go_loud (refine wpList_store_box rfl 46 (.tmp 6) (.tmp 14) rfl W1.heap.size 0 rfl (.agg #[.int .i64 0, .string ⟨#[]⟩, .slice none 0 0]) rfl [.int .i64 0, .string ⟨#[]⟩, .slice none 0 0] rfl [.int .i64 0, .string ⟨#[]⟩, .slice none 0 0] 46 (heap_alloc_new W1 (.cells #[.int .i64 0, .string ⟨#[]⟩, .slice none 0 0] 46)) (Nat.le_refl _) (show (Tryz.prog.info? 46).map (·.size) = some 3 by kernel_rfl) ?ca0 W1.heap.size (Nat.le_refl _) (W1.alloc (.cells #[.int .i64 0, .string ⟨#[]⟩, .slice none 0 0] 46)) (Below.refl _ _) ?_; rotate_left; intro W2 hb2 hbx hoth)))
    try case ca0 => first | exact ⟨rfl, rfl, rfl⟩ | (intro v hv; simp at hv; rcases hv with rfl | rfl | rfl <;> rfl)
    have hb12 : Below W1.heap.size W1 W2 := (alloc_below W1 (.cells #[.int .i64 0, .string ⟨#[]⟩, .slice none 0 0] 46)).trans hb2
    have hb02 : Below W0.heap.size W0 W2 := HB1.out.trans (hb12.mono HB1.out.size)
    have H2 := Lib.hid (And.intro ((hb02.block (N + 1) (blk_lt HB0.out.2.2)).trans HB0.out.2.2) (HB0.out.1.trans (hb02.mono HB0.out.1.size)))
    have p0 := (hb02.cell (p := ⟨N, 0, none⟩) (World.block_lt_of_cell? W0 _ v0)).trans v0
    have p2 := (hb02.cell (p := ⟨N, 2, none⟩) (World.block_lt_of_cell? W0 _ v2)).trans v2
    have p3 := (hb02.cell (p := ⟨N, 3, none⟩) (World.block_lt_of_cell? W0 _ v3)).trans v3
    obtain ⟨M, hM⟩ : ∃ M, M = W1.heap.size := ⟨_, rfl⟩
    rw [← hM] at hbx
    try simp only [← hM]
    have HB12 := Lib.hid hb12
    clear hb12 hb02 hb2 hoth hM v0 v2 v3
    obtain ⟨m0, m1, m2, mf, ml⟩ := cells3p hbx
    clear hbx
    go_wp2_with (go_loud (refine wpList_store_box rfl 46 (.tmp 4) (.tmp 20) rfl (N + 1) 0 rfl (.agg #[.int .i64 0, .string ⟨#[]⟩, .slice none 0 0]) rfl [.int .i64 0, .string ⟨#[]⟩, .slice none 0 0] rfl [.int .i64 0, .string ⟨#[]⟩, .slice none 0 0] 46 H2.out.1 (Nat.le_refl _) (show (Tryz.prog.info? 46).map (·.size) = some 3 by kernel_rfl) ?ca1 w.heap.size HN1.out W2 (Below.refl _ _) ?_; rotate_left; intro WF hbF hbx hoth))
    try case ca1 => first | exact ⟨rfl, rfl, rfl⟩ | (intro v hv; simp at hv; rcases hv with rfl | rfl | rfl <;> rfl)
    have HFF := Lib.hid (And.intro hbF (And.intro hbx hoth))
    obtain ⟨f0, f1, f2, ff, fl⟩ := cells3p hbx
    clear hbF hbx hoth
    go_wp2
    refine bodyPost_ret (v := .tuple #[.agg #[.int .i64 0, .string ⟨#[]⟩, .slice none 0 0], .int .i64 84]) (by simp [results, Tryz.results88, go_sem, f0, f1, f2]) rfl ⟨H2.out.2.trans HFF.out.1, ?_⟩
    refine ⟨.mk 0 ⟨#[]⟩ h0 [], 84, 1, rfl, by rw [← HR.out]; rfl, (fun h => ?_), zty _⟩
    rw [← HR.out] at h
    have h9 : (84 : Int) = 0 := h
    cases h9
  | some r =>
    obtain ⟨t, sh⟩ := r
    go_upto_region 2 with
      (first
        | (go_loud (go_at_call 24; refine HCL.out.mono ?_; rintro e W1 ⟨hb1, ⟨⟨k1, nm1, h1, l1⟩, rfl, he1, f, hy1⟩⟩; simp only [tyV, tyC]; have HB1 := Lib.hid hb1; have HY1 := Lib.hid (And.intro he1 hy1); clear hb1 he1 hy1))
        | (go_loud (refine wpList_store_box rfl 46 (.tmp 6) (.tmp 14) rfl W1.heap.size 0 rfl (.agg #[.int .i64 k1, .string nm1, .slice h1.oa l1.length h1.cap]) rfl [.int .i64 k1, .string nm1, .slice h1.oa l1.length h1.cap] rfl [.int .i64 0, .string ⟨#[]⟩, .slice none 0 0] 46 (heap_alloc_new W1 (.cells #[.int .i64 0, .string ⟨#[]⟩, .slice none 0 0] 46)) (Nat.le_refl _) (show (Tryz.prog.info? 46).map (·.size) = some 3 by kernel_rfl) ?ca0 W1.heap.size (Nat.le_refl _) (W1.alloc (.cells #[.int .i64 0, .string ⟨#[]⟩, .slice none 0 0] 46)) (Below.refl _ _) ?_; rotate_left; intro W2 hb2 hbx hoth)))
    try case ca0 => first | exact ⟨rfl, rfl, rfl⟩ | (intro v hv; simp at hv; rcases hv with rfl | rfl | rfl <;> rfl)
    have hb12 : Below W1.heap.size W1 W2 := (alloc_below W1 (.cells #[.int .i64 0, .string ⟨#[]⟩, .slice none 0 0] 46)).trans hb2
    have hb02 : Below W0.heap.size W0 W2 := HB1.out.trans (hb12.mono HB1.out.size)
    have H2 := Lib.hid (And.intro ((hb02.block (N + 1) (blk_lt HB0.out.2.2)).trans HB0.out.2.2) (HB0.out.1.trans (hb02.mono HB0.out.1.size)))
    have p0 := (hb02.cell (p := ⟨N, 0, none⟩) (World.block_lt_of_cell? W0 _ v0)).trans v0
    have p2 := (hb02.cell (p := ⟨N, 2, none⟩) (World.block_lt_of_cell? W0 _ v2)).trans v2
    have p3 := (hb02.cell (p := ⟨N, 3, none⟩) (World.block_lt_of_cell? W0 _ v3)).trans v3
    obtain ⟨M, hM⟩ : ∃ M, M = W1.heap.size := ⟨_, rfl⟩
    rw [← hM] at hbx
    try simp only [← hM]
    have HB12 := Lib.hid hb12
    clear hb12 hb02 hb2 hoth hM v0 v2 v3
    obtain ⟨m0, m1, m2, mf, ml⟩ := cells3p hbx
    clear hbx
    have HY := Lib.hid (And.intro HY1.out.1 (TyH.und f _ _ _ (ebp_und (f' := fun q => kf q && q != N + 1) HB12.out.size fun q hq hf => ⟨hf, HB12.out.block q hq⟩) HY1.out.2))
    clear HY1
    cases e1 : (k == 9) with
    | true =>
      have HR2 := Lib.hid (show unboxR t np = R from by
        have h := HR.out
        dsimp only [ofSpR] at h
        rw [if_pos (show k = 9 by simpa using e1)] at h
        exact h)
      have hcu := HUB.out f (.mk k1 nm1 h1 l1) W2 (fun q => kf q && q != N + 1) HY.out.2 (fun z hz => by
        have h1 := HK.out z (Nat.le_trans H2.out.2.size hz)
        have h2 : N + 1 < W2.heap.size := blk_lt H2.out.1
        have h3 : z ≠ N + 1 := by omega
        simp [h1, h3])
      rw [HY.out.1, HR2.out] at hcu
      simp only [tyV, tyC] at hcu
      have HCU := Lib.hid hcu
      clear hcu
      go_wp2_with
        (first
          | (go_loud (go_at_call 119; refine HCU.out.mono ?_; rintro e W5 ⟨hb5, ⟨⟨k2, nm2, h2, l2⟩, er, g, rfl, her, hok, hy5⟩⟩; simp only [tyV, tyC]; have H5 := Lib.hid (And.intro ((hb5.block (N + 1) (blk_lt H2.out.1)).trans H2.out.1) (H2.out.2.trans (hb5.mono H2.out.2.size))); have HE := Lib.hid (And.intro her (And.intro hok hy5)); clear hb5 her hok hy5))
          | (go_loud (refine wpList_store_box rfl 46 (.tmp 4) (.tmp 30) rfl (N + 1) 0 rfl (.agg #[.int .i64 k2, .string nm2, .slice h2.oa l2.length h2.cap]) rfl [.int .i64 k2, .string nm2, .slice h2.oa l2.length h2.cap] rfl [.int .i64 0, .string ⟨#[]⟩, .slice none 0 0] 46 H5.out.1 (Nat.le_refl _) (show (Tryz.prog.info? 46).map (·.size) = some 3 by kernel_rfl) ?ca2 w.heap.size HN1.out W5 (Below.refl _ _) ?_; rotate_left; intro WF hbF hbx hoth)))
      try case ca2 => first | exact ⟨rfl, rfl, rfl⟩ | (intro v hv; simp at hv; rcases hv with rfl | rfl | rfl <;> rfl)
      have HFF := Lib.hid (And.intro hbF (And.intro hbx hoth))
      obtain ⟨f0, f1, f2, ff, fl⟩ := cells3p hbx
      clear hbF hbx hoth
      go_wp2
      refine bodyPost_ret (v := .tuple #[.agg #[.int .i64 k2, .string nm2, .slice h2.oa l2.length h2.cap], .int .i64 er]) (by simp [results, Tryz.results88, go_sem, f0, f1, f2]) rfl ⟨H5.out.2.trans HFF.out.1, ?_⟩
      refine ⟨.mk k2 nm2 h2 l2, er, g, rfl, HE.out.1, HE.out.2.1, TyH.und g _ _ _ (ebp_und HFF.out.1.size fun q hq hf => ?_) HE.out.2.2⟩
      simp at hf
      exact ⟨hf.1, HFF.out.2.2 q hf.2⟩
    | false =>
      have hk9 : ¬ k = 9 := by simpa using e1
      have HK9 := Lib.hid hk9
      clear hk9
      obtain ⟨B, hB⟩ : ∃ B, holdsT (.mk k1 nm1 h1 l1) = B := ⟨_, rfl⟩
      have hcall := holds_any f (.mk k1 nm1 h1 l1) W2 (TyH.und f _ _ _ (ebp_all W2 _) HY.out.2)
      rw [hB] at hcall
      simp only [tyV, tyC] at hcall
      have HCH := Lib.hid hcall
      have hot : holdsT t = B := by rw [← HY.out.1, holdsT_er, hB]
      have HRB := Lib.hid (show (if holdsT t = true then ((73 : Int), t) else if k = 6 then (0, .mk 5 nil5 h0 [t]) else if sh = true then (84, t) else (0, .mk 6 nil5 h0 [t])) = R from by
        have h := HR.out
        dsimp only [ofSpR] at h
        rw [if_neg HK9.out] at h
        exact h)
      have HOT := Lib.hid hot
      clear hcall hot hB
      go_upto_if 32 with (go_loud (go_at_call 94; refine HCH.out.mono ?_; rintro e W4 ⟨rfl, hb4⟩; have H4 := Lib.hid (And.intro ((hb4.block (N + 1) (blk_lt H2.out.1)).trans H2.out.1) (And.intro (H2.out.2.trans (hb4.mono H2.out.2.size)) hb4)); have q0 := (hb4.cell (p := ⟨M, 0, none⟩) (World.block_lt_of_cell? W2 _ m0)).trans m0; have q1 := (hb4.cell (p := ⟨M, 1, none⟩) (World.block_lt_of_cell? W2 _ m1)).trans m1; have q2 := (hb4.cell (p := ⟨M, 2, none⟩) (World.block_lt_of_cell? W2 _ m2)).trans m2; have r0 := (hb4.cell (p := ⟨N, 0, none⟩) (World.block_lt_of_cell? W2 _ p0)).trans p0; clear hb4))
      cases B with
      | true =>
        have HR2 := Lib.hid (show ((73 : Int), t) = R from by
          have h := HRB.out
          rw [if_pos HOT.out] at h
          exact h)
        go_wp2_with (go_loud (refine wpList_store_box rfl 46 (.tmp 4) (.tmp 35) rfl (N + 1) 0 rfl (.agg #[.int .i64 k1, .string nm1, .slice h1.oa l1.length h1.cap]) rfl [.int .i64 k1, .string nm1, .slice h1.oa l1.length h1.cap] rfl [.int .i64 0, .string ⟨#[]⟩, .slice none 0 0] 46 H4.out.1 (Nat.le_refl _) (show (Tryz.prog.info? 46).map (·.size) = some 3 by kernel_rfl) ?ca3 w.heap.size HN1.out W4 (Below.refl _ _) ?_; rotate_left; intro WF hbF hbx hoth))
        try case ca3 => first | exact ⟨rfl, rfl, rfl⟩ | (intro v hv; simp at hv; rcases hv with rfl | rfl | rfl <;> rfl)
        have HFF := Lib.hid (And.intro hbF (And.intro hbx hoth))
        obtain ⟨f0, f1, f2, ff, fl⟩ := cells3p hbx
        clear hbF hbx hoth
        go_wp2
        refine bodyPost_ret (v := .tuple #[.agg #[.int .i64 k1, .string nm1, .slice h1.oa l1.length h1.cap], .int .i64 73]) (by simp [results, Tryz.results88, go_sem, f0, f1, f2]) rfl ⟨H4.out.2.1.trans HFF.out.1, ?_⟩
        refine ⟨.mk k1 nm1 h1 l1, 73, f, rfl, by rw [← HR2.out], (fun h => by (rw [← HR2.out] at h; cases h)), TyH.und f _ _ _ (ebp_und (Nat.le_trans H4.out.2.2.size HFF.out.1.size) fun q hq hf => ?_) HY.out.2⟩
        simp at hf
        exact ⟨hf.1, (HFF.out.2.2 q hf.2).trans (H4.out.2.2.block q hq)⟩
      | false =>
        have HRC := Lib.hid (show (if k = 6 then ((0 : Int), Ty5.mk 5 nil5 h0 [t]) else if sh = true then (84, t) else (0, .mk 6 nil5 h0 [t])) = R from by
          have h := HRB.out
          rw [if_neg (by rw [HOT.out]; decide)] at h
          exact h)
        cases e2 : (k == 6) with
        | true =>
          have HR2 := Lib.hid (show ((0 : Int), Ty5.mk 5 nil5 h0 [t]) = R from by
            have h := HRC.out
            rw [if_pos (show k = 6 by simpa using e2)] at h
            exact h)
          go_wp2_with (go_loud (refine wpList_store_box rfl 46 (.tmp 4) (.tmp 42) rfl (N + 1) 0 rfl (.agg #[.int .i64 5, .string ⟨#[]⟩, .slice (some ⟨W4.heap.size, 0, none⟩) 1 1]) rfl [.int .i64 5, .string ⟨#[]⟩, .slice (some ⟨W4.heap.size, 0, none⟩) 1 1] rfl [.int .i64 0, .string ⟨#[]⟩, .slice none 0 0] 46 (((alloc_below W4 (.cells #[.int .i64 k1, .string nm1, .slice h1.oa l1.length h1.cap] 46)).block (N + 1) (blk_lt H4.out.1)).trans H4.out.1) (Nat.le_refl _) (show (Tryz.prog.info? 46).map (·.size) = some 3 by kernel_rfl) ?ca4 w.heap.size HN1.out (W4.alloc (.cells #[.int .i64 k1, .string nm1, .slice h1.oa l1.length h1.cap] 46)) (Below.refl _ _) ?_; rotate_left; intro WF hbF hbx hoth))
          try case ca4 => first | exact ⟨rfl, rfl, rfl⟩ | (intro v hv; simp at hv; rcases hv with rfl | rfl | rfl <;> rfl)
          have HFF := Lib.hid (And.intro hbF (And.intro hbx hoth))
          obtain ⟨f0, f1, f2, ff, fl⟩ := cells3p hbx
          clear hbF hbx hoth
          go_wp2
          refine bodyPost_ret (v := .tuple #[.agg #[.int .i64 5, .string ⟨#[]⟩, .slice (some ⟨W4.heap.size, 0, none⟩) 1 1], .int .i64 0]) (by simp [results, Tryz.results88, go_sem, f0, f1, f2]) rfl ⟨(H4.out.2.1.trans ((alloc_below W4 (.cells #[.int .i64 k1, .string nm1, .slice h1.oa l1.length h1.cap] 46)).mono H4.out.2.1.size)).trans HFF.out.1, ?_⟩
          obtain ⟨hbF, hbx, hoth⟩ := HFF.out
          have hNW : N + 1 < W4.heap.size := blk_lt H4.out.1
          have hbl : WF.heap[W4.heap.size]? = some (.cells #[.int .i64 k1, .string nm1, .slice h1.oa l1.length h1.cap] 46) := (hoth _ (by omega)).trans (heap_alloc_new W4 _)
          have hsF : W4.heap.size + 1 ≤ WF.heap.size := by
            have := blk_lt hbl
            omega
          have hyF : TyH f (ebp WF kf) (.mk k1 nm1 h1 l1) := TyH.und f _ _ _ (ebp_und (Nat.le_trans H4.out.2.2.size (by omega)) fun q hq hf => by
            simp at hf
            exact ⟨hf.1, (hoth q hf.2).trans (((alloc_below W4 (.cells #[.int .i64 k1, .string nm1, .slice h1.oa l1.length h1.cap] 46)).block q (Nat.lt_of_lt_of_le hq H4.out.2.2.size)).trans (H4.out.2.2.block q hq))⟩) HY.out.2
          exact boxed_out kf 5 f WF W4.heap.size (.mk k1 nm1 h1 l1) R _ hbl (HK.out _ H4.out.2.1.size) hyF (by rw [← HR2.out, HY.out.1]) rfl (by unfold I64; omega)
        | false =>
          have HRD := Lib.hid (show (if sh = true then ((84 : Int), t) else (0, .mk 6 nil5 h0 [t])) = R from by
            have h := HRC.out
            rw [if_neg (show ¬ k = 6 by simpa using e2)] at h
            exact h)
          cases sh with
          | true =>
            have HR2 := Lib.hid (show ((84 : Int), t) = R from by
              have h := HRD.out
              rw [if_pos rfl] at h
              exact h)
            go_wp2_with (go_loud (refine wpList_store_box rfl 46 (.tmp 4) (.tmp 45) rfl (N + 1) 0 rfl (.agg #[.int .i64 k1, .string nm1, .slice h1.oa l1.length h1.cap]) rfl [.int .i64 k1, .string nm1, .slice h1.oa l1.length h1.cap] rfl [.int .i64 0, .string ⟨#[]⟩, .slice none 0 0] 46 H4.out.1 (Nat.le_refl _) (show (Tryz.prog.info? 46).map (·.size) = some 3 by kernel_rfl) ?ca5 w.heap.size HN1.out W4 (Below.refl _ _) ?_; rotate_left; intro WF hbF hbx hoth))
            try case ca5 => first | exact ⟨rfl, rfl, rfl⟩ | (intro v hv; simp at hv; rcases hv with rfl | rfl | rfl <;> rfl)
            have HFF := Lib.hid (And.intro hbF (And.intro hbx hoth))
            obtain ⟨f0, f1, f2, ff, fl⟩ := cells3p hbx
            clear hbF hbx hoth
            go_wp2
            refine bodyPost_ret (v := .tuple #[.agg #[.int .i64 k1, .string nm1, .slice h1.oa l1.length h1.cap], .int .i64 84]) (by simp [results, Tryz.results88, go_sem, f0, f1, f2]) rfl ⟨H4.out.2.1.trans HFF.out.1, ?_⟩
            refine ⟨.mk k1 nm1 h1 l1, 84, f, rfl, by rw [← HR2.out], (fun h => by (rw [← HR2.out] at h; cases h)), TyH.und f _ _ _ (ebp_und (Nat.le_trans H4.out.2.2.size HFF.out.1.size) fun q hq hf => ?_) HY.out.2⟩
            simp at hf
            exact ⟨hf.1, (HFF.out.2.2 q hf.2).trans (H4.out.2.2.block q hq)⟩
          | false =>
            have HR2 := Lib.hid (show ((0 : Int), Ty5.mk 6 nil5 h0 [t]) = R from by
              have h := HRD.out
              rw [if_neg (by decide)] at h
              exact h)
            go_wp2_with (go_loud (refine wpList_store_box rfl 46 (.tmp 4) (.tmp 48) rfl (N + 1) 0 rfl (.agg #[.int .i64 6, .string ⟨#[]⟩, .slice (some ⟨W4.heap.size, 0, none⟩) 1 1]) rfl [.int .i64 6, .string ⟨#[]⟩, .slice (some ⟨W4.heap.size, 0, none⟩) 1 1] rfl [.int .i64 0, .string ⟨#[]⟩, .slice none 0 0] 46 (((alloc_below W4 (.cells #[.int .i64 k1, .string nm1, .slice h1.oa l1.length h1.cap] 46)).block (N + 1) (blk_lt H4.out.1)).trans H4.out.1) (Nat.le_refl _) (show (Tryz.prog.info? 46).map (·.size) = some 3 by kernel_rfl) ?ca6 w.heap.size HN1.out (W4.alloc (.cells #[.int .i64 k1, .string nm1, .slice h1.oa l1.length h1.cap] 46)) (Below.refl _ _) ?_; rotate_left; intro WF hbF hbx hoth))
            try case ca6 => first | exact ⟨rfl, rfl, rfl⟩ | (intro v hv; simp at hv; rcases hv with rfl | rfl | rfl <;> rfl)
            have HFF := Lib.hid (And.intro hbF (And.intro hbx hoth))
            obtain ⟨f0, f1, f2, ff, fl⟩ := cells3p hbx
            clear hbF hbx hoth
            go_wp2
            refine bodyPost_ret (v := .tuple #[.agg #[.int .i64 6, .string ⟨#[]⟩, .slice (some ⟨W4.heap.size, 0, none⟩) 1 1], .int .i64 0]) (by simp [results, Tryz.results88, go_sem, f0, f1, f2]) rfl ⟨(H4.out.2.1.trans ((alloc_below W4 (.cells #[.int .i64 k1, .string nm1, .slice h1.oa l1.length h1.cap] 46)).mono H4.out.2.1.size)).trans HFF.out.1, ?_⟩
            obtain ⟨hbF, hbx, hoth⟩ := HFF.out
            have hNW : N + 1 < W4.heap.size := blk_lt H4.out.1
            have hbl : WF.heap[W4.heap.size]? = some (.cells #[.int .i64 k1, .string nm1, .slice h1.oa l1.length h1.cap] 46) := (hoth _ (by omega)).trans (heap_alloc_new W4 _)
            have hsF : W4.heap.size + 1 ≤ WF.heap.size := by
              have := blk_lt hbl
              omega
            have hyF : TyH f (ebp WF kf) (.mk k1 nm1 h1 l1) := TyH.und f _ _ _ (ebp_und (Nat.le_trans H4.out.2.2.size (by omega)) fun q hq hf => by
              simp at hf
              exact ⟨hf.1, (hoth q hf.2).trans (((alloc_below W4 (.cells #[.int .i64 k1, .string nm1, .slice h1.oa l1.length h1.cap] 46)).block q (Nat.lt_of_lt_of_le hq H4.out.2.2.size)).trans (H4.out.2.2.block q hq))⟩) HY.out.2
            exact boxed_out kf 6 f WF W4.heap.size (.mk k1 nm1 h1 l1) R _ hbl (HK.out _ H4.out.2.1.size) hyF (by rw [← HR2.out, HY.out.1]) rfl (by unfold I64; omega)

end Go.Proofs.YtghkbihgdabamaaGreatDoor
