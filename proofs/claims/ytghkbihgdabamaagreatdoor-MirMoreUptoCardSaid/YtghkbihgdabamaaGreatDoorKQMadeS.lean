/-
  Several texts of the proof in one: QOfUsesB, QMade, QMadeS. No conditions of their own: each lemma states its own.
-/
import Derived.Test.YtghkbihgdabamaaGreatDoorKQOfUses
namespace Go.Proofs.YtghkbihgdabamaaGreatDoor
open Go.RowKit

def ofuR (s : So5) (m : Nat) (b : Bo) (x : Va) : Int × Ty5 :=
  if x.k = 0 ∨ x.k = 8 then ofoR s m b x
  else if x.k = 10 then (match s.structs[x.which.toNat]? with
    | some d => ofuM s m b d x.uses
    | none => (0, ty0))
  else if x.k = 11 then (match s.enums[x.which.toNat]? with
    | some d => (match d.vars[x.tag.toNat]? with
      | some y => ofuV s m b d y x.uses
      | none => (0, ty0))
    | none => (0, ty0))
  else if x.k = 12 then (match s.fns[x.which.toNat]? with
    | some d => ofuS s m b d x.uses
    | none => (0, ty0))
  else ofuN s m b x.uses
/-- what a value names by number is there -/
def NumOk (s : So5) (x : Va) : Prop := (x.k = 10 → ∃ (i : Nat) (d : Su5), x.which = i ∧ s.structs[i]? = some d) ∧ (x.k = 11 → ∃ (i : Nat) (d : En5) (j : Nat) (y : Fd5), x.which = i ∧ s.enums[i]? = some d ∧ x.tag = j ∧ d.vars[j]? = some y) ∧ (x.k = 12 → ∃ (i : Nat) (d : Fn5), x.which = i ∧ s.fns[i]? = some d)
set_option maxRecDepth 100000 in
theorem ofUses_any (kf : Nat → Bool) (m : Nat) (s : So5) (b : Bo) (v : Nat) (x : Va) (w : World) (hs : SoH m w s) (hsn : SoN s) (hv : ViewAt w v s b) (hb : BoH m w b) (hx : VaH w x) (hk : ∀ y, w.heap.size ≤ y → kf y = true) (hbk : ∀ lo ∈ b.locals, TyH m (ebp w kf) lo.ty) (hn : NumOk s x) :
    Calls Tryz.prog 87 #[.pointer (some ⟨v, 0, none⟩), vaV x] w fun e w' => Below w.heap.size w w' ∧ OutP kf w' (ofuR s m b x) e := by
  obtain ⟨k, hu, uses, xs, which, tag⟩ := x
  obtain ⟨h10, h11, h12⟩ := hn
  dsimp only at h10 h11 h12
  unfold ofuR
  dsimp only
  by_cases k0 : k = 0
  · subst k0
    rw [if_pos (Or.inl rfl)]
    exact ofUses_one0 kf m s b v hu uses xs which tag w hs hsn hv hb hx hk hbk
  by_cases k8 : k = 8
  · subst k8
    rw [if_pos (Or.inr rfl)]
    exact ofUses_one8 kf m s b v hu uses xs which tag w hs hsn hv hb hx hk hbk
  rw [if_neg (by rintro (h | h)
                 · exact k0 h
                 · exact k8 h)]
  by_cases k10 : k = 10
  · subst k10
    obtain ⟨i, d, rfl, hd⟩ := h10 rfl
    rw [if_pos rfl, Int.toNat_natCast, hd]
    exact ofUses_make kf m s b v hu uses xs i d tag w hs hsn hv hb hx hd
  rw [if_neg k10]
  by_cases k11 : k = 11
  · subst k11
    obtain ⟨i, d, j, y, rfl, hd, rfl, hj⟩ := h11 rfl
    rw [if_pos rfl, Int.toNat_natCast, hd]
    dsimp only
    rw [Int.toNat_natCast, hj]
    exact ofUses_variant kf m s b v hu uses xs i d j y w hs hsn hv hb hx hd hj
  rw [if_neg k11]
  by_cases k12 : k = 12
  · subst k12
    obtain ⟨i, d, rfl, hd⟩ := h12 rfl
    rw [if_pos rfl, Int.toNat_natCast, hd]
    exact ofUses_start kf m s b v hu uses xs i d tag w hs hsn hv hb hx hd
  rw [if_neg k12]
  exact ofUses_num kf m s b v k hu uses xs which tag w hs hsn hv hb hx (by simpa using k0) (by simpa using k8) (by simpa using k10) (by simpa using k11) (by simpa using k12)

end Go.Proofs.YtghkbihgdabamaaGreatDoor

namespace Go.Proofs.YtghkbihgdabamaaGreatDoor
open Go.RowKit

def madN (s : So5) (m : Nat) (b : Bo) (x : Va) : Int × Ty5 := if noSpB x.s = true then ofuR s m b x else (84, ty0)
set_option maxRecDepth 100000 in
set_option maxHeartbeats 40000000 in
theorem made_no (kf : Nat → Bool) (m : Nat) (s : So5) (b : Bo) (v : Nat) (x : Va) (w : World) (hs : SoH m w s) (hsn : SoN s) (hv : ViewAt w v s b) (hb : BoH m w b) (hx : VaH w x) (hk : ∀ y, w.heap.size ≤ y → kf y = true) (hbk : ∀ lo ∈ b.locals, TyH m (ebp w kf) lo.ty) (hn : NumOk s x) (hsb : hasSpB x.k = false) :
    Calls Tryz.prog 56 #[.pointer (some ⟨v, 0, none⟩), vaV x] w fun e w' => Below w.heap.size w w' ∧ OutP kf w' (madN s m b x) e := by
  obtain ⟨R, hR⟩ : ∃ R, madN s m b x = R := ⟨_, rfl⟩
  obtain ⟨RU, hRU⟩ : ∃ R, ofuR s m b x = R := ⟨_, rfl⟩
  have hoo := fun W kf' h1 h2 h3 => ofUses_any kf' m s b v x W (SoH.below hs h1) hsn (hv.below h1) (BoH.below hb h1) (VaH.below hx h1) h2 h3 hn
  rw [hR]
  rw [hRU] at hoo
  unfold madN at hR
  rw [hRU] at hR
  have hns := fun W => isNoSpot_any x.s W
  obtain ⟨B2, hB2⟩ : ∃ B, noSpB x.s = B := ⟨_, rfl⟩
  rw [hB2] at hR
  simp only [hB2] at hns
  have hhs := fun W => hasSpot_any x.k W
  rw [hsb] at hhs
  obtain ⟨k, hu, uses, ⟨loc, ph, path⟩, which, tag⟩ := x
  obtain ⟨nu, hnu⟩ : ∃ n, uses.length = n := ⟨_, rfl⟩
  obtain ⟨np, hnp⟩ : ∃ n, path.length = n := ⟨_, rfl⟩
  simp only [vaV, vaC, spV, spC, List.cons_append, List.nil_append, hnu, hnp] at hoo hns hhs ⊢
  obtain ⟨W0, hW⟩ : ∃ W, W = (w.alloc (.cells #[.int .i64 k, .slice hu.oa nu hu.cap, .int .i64 loc, .slice ph.oa np ph.cap, .int .i64 which, .int .i64 tag] 37)).alloc (.cells #[.int .i64 0, .string ⟨#[]⟩, .slice none 0 0] 46) := ⟨_, rfl⟩
  obtain ⟨hb0, hx0, hx1⟩ := pal2 w (.cells #[.int .i64 k, .slice hu.oa nu hu.cap, .int .i64 loc, .slice ph.oa np ph.cap, .int .i64 which, .int .i64 tag] 37) (.cells #[.int .i64 0, .string ⟨#[]⟩, .slice none 0 0] 46)
  rw [← hW] at hb0 hx0 hx1
  have hsz : W0.heap.size = w.heap.size + 2 := by rw [hW]; simp
  obtain ⟨N, hN⟩ : ∃ N, N = w.heap.size := ⟨_, rfl⟩
  rw [← hN] at hx0 hx1 hsz
  have HCL := Lib.hid (show ∀ W, Below W0.heap.size W0 W → _ from fun W hW => hoo W (fun q => kf q && q != N + 1) (hb0.trans (hW.mono hb0.size)) (fun y hy => by
      have h0 := hW.size
      have h1 := hk y (by omega)
      have h2 : y ≠ N + 1 := by omega
      simp [h1, h2]) (fun lo hlo => TyH.und m _ _ _ (ebp_und (hb0.trans (hW.mono hb0.size)).size fun q hq hf => ⟨by
        have h2 : q ≠ N + 1 := by omega
        simp [hf, h2], (hb0.trans (hW.mono hb0.size)).block q hq⟩) (hbk lo hlo)))
  have HHS := Lib.hid hhs
  have HNS := Lib.hid hns
  have HR := Lib.hid hR
  have HB0 := Lib.hid (And.intro hb0 (And.intro hx0 hx1))
  have HN1 := Lib.hid (show w.heap.size ≤ N + 1 by omega)
  obtain ⟨v0, v1, v2, v3, v4, v5⟩ : W0.cell? ⟨N, 0, none⟩ = some (.int .i64 k) ∧ W0.cell? ⟨N, 1, none⟩ = some (.slice hu.oa nu hu.cap) ∧ W0.cell? ⟨N, 2, none⟩ = some (.int .i64 loc) ∧ W0.cell? ⟨N, 3, none⟩ = some (.slice ph.oa np ph.cap) ∧ W0.cell? ⟨N, 4, none⟩ = some (.int .i64 which) ∧ W0.cell? ⟨N, 5, none⟩ = some (.int .i64 tag) := by
    refine ⟨?_, ?_, ?_, ?_, ?_, ?_⟩ <;> simp [World.cell?, hx0]
  clear hs hsn hv hb hx hk hbk hb0 hx0 hx1 hsz hoo hhs hns hR hRU hnu hnp hn hsb hB2
  go_enter Tryz.func56, Tryz.ntmps56
  go_upto_region 1 with fail
  rw [← hW]
  clear hW
  try simp only [← hN]
  clear hN
  go_upto_if 15 with
    (first
      | (go_loud (go_at_call 85; refine (HHS.out W0).mono ?_; rintro e W1 ⟨rfl, hw1⟩; rw [hw1]; clear hw1))
      | (go_loud (go_at_call 86; refine (HNS.out W0).mono ?_; rintro e W2 ⟨rfl, hb2⟩; have H2 := Lib.hid (And.intro ((hb2.block (N + 1) (blk_lt HB0.out.2.2)).trans HB0.out.2.2) (And.intro (HB0.out.1.trans (hb2.mono HB0.out.1.size)) hb2)); have p0 := (hb2.cell (World.block_lt_of_cell? W0 _ v0)).trans v0; have p1 := (hb2.cell (World.block_lt_of_cell? W0 _ v1)).trans v1; have p2 := (hb2.cell (World.block_lt_of_cell? W0 _ v2)).trans v2; have p3 := (hb2.cell (World.block_lt_of_cell? W0 _ v3)).trans v3; have p4 := (hb2.cell (World.block_lt_of_cell? W0 _ v4)).trans v4; have p5 := (hb2.cell (World.block_lt_of_cell? W0 _ v5)).trans v5; clear hb2)))
  clear v0 v1 v2 v3 v4 v5
  cases B2 with
  | false =>
    go_wp2_with (go_loud (refine wpList_store_box rfl 46 (.tmp 4) (.tmp 16) rfl (N + 1) 0 rfl (.agg #[.int .i64 0, .string ⟨#[]⟩, .slice none 0 0]) rfl [.int .i64 0, .string ⟨#[]⟩, .slice none 0 0] rfl [.int .i64 0, .string ⟨#[]⟩, .slice none 0 0] 46 H2.out.1 (Nat.le_refl _) (show (Tryz.prog.info? 46).map (·.size) = some 3 by kernel_rfl) ?ca1 w.heap.size HN1.out W2 (Below.refl _ _) ?_; rotate_left; intro WF hbF hbx hoth))
    try case ca1 => first | exact ⟨rfl, rfl, rfl⟩ | (intro v hv; simp at hv; rcases hv with rfl | rfl | rfl <;> rfl)
    have HFF := Lib.hid (And.intro hbF (And.intro hbx hoth))
    obtain ⟨f0, f1, f2, ff, fl⟩ := cells3p hbx
    clear hbF hbx hoth
    go_wp2
    refine bodyPost_ret (v := .tuple #[.agg #[.int .i64 0, .string ⟨#[]⟩, .slice none 0 0], .int .i64 84]) (by simp [results, Tryz.results56, go_sem, f0, f1, f2]) rfl ⟨H2.out.2.1.trans HFF.out.1, ?_⟩
    have h9 : ((84 : Int), ty0) = R := by
      have h := HR.out
      rw [if_neg (by decide)] at h
      exact h
    refine ⟨.mk 0 ⟨#[]⟩ h0 [], 84, 1, rfl, by rw [← h9], (fun h => ?_), zty _⟩
    rw [← h9] at h
    cases h
  | true =>
    have HRU := Lib.hid (show RU = R from by
      have h := HR.out
      rw [if_pos rfl] at h
      exact h)
    go_wp2_with
      (first
        | (go_loud (go_at_call 87; refine (HCL.out W2 H2.out.2.2).mono ?_; rintro e W5 ⟨hb5, ⟨⟨k2, nm2, h2, l2⟩, er, g, rfl, her, hok, hy5⟩⟩; simp only [tyV, tyC]; have H5 := Lib.hid (And.intro ((hb5.block (N + 1) (blk_lt H2.out.1)).trans H2.out.1) (H2.out.2.1.trans (hb5.mono H2.out.2.1.size))); have HE := Lib.hid (And.intro her (And.intro hok hy5)); clear hb5 her hok hy5))
        | (go_loud (refine wpList_store_box rfl 46 (.tmp 4) (.tmp 20) rfl (N + 1) 0 rfl (.agg #[.int .i64 k2, .string nm2, .slice h2.oa l2.length h2.cap]) rfl [.int .i64 k2, .string nm2, .slice h2.oa l2.length h2.cap] rfl [.int .i64 0, .string ⟨#[]⟩, .slice none 0 0] 46 H5.out.1 (Nat.le_refl _) (show (Tryz.prog.info? 46).map (·.size) = some 3 by kernel_rfl) ?ca2 w.heap.size HN1.out W5 (Below.refl _ _) ?_; rotate_left; intro WF hbF hbx hoth)))
    try case ca2 => first | exact ⟨rfl, rfl, rfl⟩ | (intro v hv; simp at hv; rcases hv with rfl | rfl | rfl <;> rfl)
    have HFF := Lib.hid (And.intro hbF (And.intro hbx hoth))
    obtain ⟨f0, f1, f2, ff, fl⟩ := cells3p hbx
    clear hbF hbx hoth
    go_wp2
    refine bodyPost_ret (v := .tuple #[.agg #[.int .i64 k2, .string nm2, .slice h2.oa l2.length h2.cap], .int .i64 er]) (by simp [results, Tryz.results56, go_sem, f0, f1, f2]) rfl ⟨H5.out.2.trans HFF.out.1, ?_⟩
    rw [← HRU.out]
    refine ⟨.mk k2 nm2 h2 l2, er, g, rfl, HE.out.1, HE.out.2.1, TyH.und g _ _ _ (ebp_und HFF.out.1.size fun q hq hf => ?_) HE.out.2.2⟩
    simp at hf
    exact ⟨hf.1, HFF.out.2.2 q hf.2⟩

end Go.Proofs.YtghkbihgdabamaaGreatDoor

namespace Go.Proofs.YtghkbihgdabamaaGreatDoor
open Go.RowKit

def madS (s : So5) (m : Nat) (b : Bo) (x : Va) : Int × Ty5 := if (ofSpR (spotR s m b x.s) x.k x.s.path.length).1 = 0 then (if x.uses = [] then 0 else 81, (ofSpR (spotR s m b x.s) x.k x.s.path.length).2) else ofSpR (spotR s m b x.s) x.k x.s.path.length
set_option maxRecDepth 100000 in
set_option maxHeartbeats 40000000 in
theorem made_sp (kf : Nat → Bool) (m : Nat) (s : So5) (b : Bo) (v : Nat) (x : Va) (w : World) (hs : SoH m w s) (hsn : SoN s) (hv : ViewAt w v s b) (hb : BoH m w b) (hx : VaH w x) (hk : ∀ y, w.heap.size ≤ y → kf y = true) (hbk : ∀ lo ∈ b.locals, TyH m (ebp w kf) lo.ty) (hsb : hasSpB x.k = true) :
    Calls Tryz.prog 56 #[.pointer (some ⟨v, 0, none⟩), vaV x] w fun e w' => Below w.heap.size w w' ∧ OutP kf w' (madS s m b x) e := by
  obtain ⟨R, hR⟩ : ∃ R, madS s m b x = R := ⟨_, rfl⟩
  obtain ⟨RU, hRU⟩ : ∃ R, ofSpR (spotR s m b x.s) x.k x.s.path.length = R := ⟨_, rfl⟩
  have hoo := fun W kf' h1 h2 h3 => ofSpot_any kf' m s b v x W (SoH.below hs h1) hsn (hv.below h1) (BoH.below hb h1) (VaH.below hx h1) h2 h3
  rw [hR]
  rw [hRU] at hoo
  unfold madS at hR
  rw [hRU] at hR
  obtain ⟨Z, hZ⟩ : ∃ z : Int, (if x.uses = [] then (0 : Int) else 81) = z := ⟨_, rfl⟩
  rw [hZ] at hR
  have hun := fun W => usesNil_any v x.h x.uses W ⟨hx.2.1.1, hx.2.1.2.1⟩
  simp only [hZ] at hun
  have hhs := fun W => hasSpot_any x.k W
  rw [hsb] at hhs
  obtain ⟨k, hu, uses, ⟨loc, ph, path⟩, which, tag⟩ := x
  obtain ⟨nu, hnu⟩ : ∃ n, uses.length = n := ⟨_, rfl⟩
  obtain ⟨np, hnp⟩ : ∃ n, path.length = n := ⟨_, rfl⟩
  simp only [vaV, vaC, spV, spC, List.cons_append, List.nil_append, hnu, hnp] at hoo hun hhs ⊢
  obtain ⟨W0, hW⟩ : ∃ W, W = (w.alloc (.cells #[.int .i64 k, .slice hu.oa nu hu.cap, .int .i64 loc, .slice ph.oa np ph.cap, .int .i64 which, .int .i64 tag] 37)).alloc (.cells #[.int .i64 0, .string ⟨#[]⟩, .slice none 0 0] 46) := ⟨_, rfl⟩
  obtain ⟨hb0, hx0, hx1⟩ := pal2 w (.cells #[.int .i64 k, .slice hu.oa nu hu.cap, .int .i64 loc, .slice ph.oa np ph.cap, .int .i64 which, .int .i64 tag] 37) (.cells #[.int .i64 0, .string ⟨#[]⟩, .slice none 0 0] 46)
  rw [← hW] at hb0 hx0 hx1
  have hsz : W0.heap.size = w.heap.size + 2 := by rw [hW]; simp
  obtain ⟨N, hN⟩ : ∃ N, N = w.heap.size := ⟨_, rfl⟩
  rw [← hN] at hx0 hx1 hsz
  have HCL := Lib.hid (hoo W0 (fun q => kf q && q != N + 1) hb0 (fun y hy => by
      have h1 := hk y (by omega)
      have h2 : y ≠ N + 1 := by omega
      simp [h1, h2]) (fun lo hlo => TyH.und m _ _ _ (ebp_und hb0.size fun q hq hf => ⟨by
        have h2 : q ≠ N + 1 := by omega
        simp [hf, h2], hb0.block q hq⟩) (hbk lo hlo)))
  have HHS := Lib.hid hhs
  have HUN := Lib.hid hun
  have HR := Lib.hid hR
  have HB0 := Lib.hid (And.intro hb0 (And.intro hx0 hx1))
  have HN1 := Lib.hid (show w.heap.size ≤ N + 1 by omega)
  obtain ⟨v0, v1, v2, v3, v4, v5⟩ : W0.cell? ⟨N, 0, none⟩ = some (.int .i64 k) ∧ W0.cell? ⟨N, 1, none⟩ = some (.slice hu.oa nu hu.cap) ∧ W0.cell? ⟨N, 2, none⟩ = some (.int .i64 loc) ∧ W0.cell? ⟨N, 3, none⟩ = some (.slice ph.oa np ph.cap) ∧ W0.cell? ⟨N, 4, none⟩ = some (.int .i64 which) ∧ W0.cell? ⟨N, 5, none⟩ = some (.int .i64 tag) := by
    refine ⟨?_, ?_, ?_, ?_, ?_, ?_⟩ <;> simp [World.cell?, hx0]
  clear hs hsn hv hb hx hk hbk hb0 hx0 hx1 hsz hoo hhs hun hR hRU hnu hnp hsb hZ
  go_enter Tryz.func56, Tryz.ntmps56
  go_upto_region 1 with fail
  rw [← hW]
  clear hW
  try simp only [← hN]
  clear hN
  go_upto_region 6 with
    (first
      | (go_loud (go_at_call 85; refine (HHS.out W0).mono ?_; rintro e W1 ⟨rfl, hw1⟩; rw [hw1]; clear hw1))
      | (go_loud (go_at_call 88; refine HCL.out.mono ?_; rintro e W1 ⟨hb1, ⟨⟨k1, nm1, h1, l1⟩, er, g, rfl, her, hok, hy1⟩⟩; simp only [tyV, tyC]; have HB1 := Lib.hid hb1; have HE := Lib.hid (And.intro her (And.intro hok hy1)); clear hb1 her hok hy1))
      | (go_loud (refine wpList_store_box rfl 46 (.tmp 6) (.tmp 26) rfl W1.heap.size 0 rfl (.agg #[.int .i64 k1, .string nm1, .slice h1.oa l1.length h1.cap]) rfl [.int .i64 k1, .string nm1, .slice h1.oa l1.length h1.cap] rfl [.int .i64 0, .string ⟨#[]⟩, .slice none 0 0] 46 (heap_alloc_new W1 (.cells #[.int .i64 0, .string ⟨#[]⟩, .slice none 0 0] 46)) (Nat.le_refl _) (show (Tryz.prog.info? 46).map (·.size) = some 3 by kernel_rfl) ?ca0 W1.heap.size (Nat.le_refl _) (W1.alloc (.cells #[.int .i64 0, .string ⟨#[]⟩, .slice none 0 0] 46)) (Below.refl _ _) ?_; rotate_left; intro W2 hb2 hbx hoth)))
  try case ca0 => first | exact ⟨rfl, rfl, rfl⟩ | (intro v hv; simp at hv; rcases hv with rfl | rfl | rfl <;> rfl)
  have hb12 : Below W1.heap.size W1 W2 := (alloc_below W1 (.cells #[.int .i64 0, .string ⟨#[]⟩, .slice none 0 0] 46)).trans hb2
  have hb02 : Below W0.heap.size W0 W2 := HB1.out.trans (hb12.mono HB1.out.size)
  have H2 := Lib.hid (And.intro ((hb02.block (N + 1) (blk_lt HB0.out.2.2)).trans HB0.out.2.2) (HB0.out.1.trans (hb02.mono HB0.out.1.size)))
  have p1 := (hb02.cell (World.block_lt_of_cell? W0 _ v1)).trans v1
  obtain ⟨M, hM⟩ : ∃ M, M = W1.heap.size := ⟨_, rfl⟩
  rw [← hM] at hbx
  try simp only [← hM]
  have HB12 := Lib.hid hb12
  clear hb12 hb02 hb2 hoth hM v0 v1 v2 v3 v4 v5
  obtain ⟨m0, m1, m2, mf, ml⟩ := cells3p hbx
  clear hbx
  cases e1 : (er == 0) with
  | true =>
    have he0 : er = 0 := by simpa using e1
    have hR2 : (Z, RU.2) = R := by
      have h := HR.out
      rw [if_pos (by rw [← HE.out.1]; exact he0)] at h
      exact h
    have HR2 := Lib.hid (And.intro hR2 (show erTy (.mk k1 nm1 h1 l1) = RU.2 from HE.out.2.1 (by rw [← HE.out.1]; exact he0)))
    clear hR2 he0
    go_wp2_with
      (first
        | (go_loud (go_at_call 89; refine (HUN.out W2).mono ?_; rintro e W3 ⟨rfl, hb3⟩; have H3 := Lib.hid (And.intro ((hb3.block (N + 1) (blk_lt H2.out.1)).trans H2.out.1) (And.intro (H2.out.2.trans (hb3.mono H2.out.2.size)) hb3)); have q0 := (hb3.cell (World.block_lt_of_cell? W2 _ m0)).trans m0; have q1 := (hb3.cell (World.block_lt_of_cell? W2 _ m1)).trans m1; have q2 := (hb3.cell (World.block_lt_of_cell? W2 _ m2)).trans m2; clear hb3))
        | (go_loud (refine wpList_store_box rfl 46 (.tmp 4) (.tmp 34) rfl (N + 1) 0 rfl (.agg #[.int .i64 k1, .string nm1, .slice h1.oa l1.length h1.cap]) rfl [.int .i64 k1, .string nm1, .slice h1.oa l1.length h1.cap] rfl [.int .i64 0, .string ⟨#[]⟩, .slice none 0 0] 46 H3.out.1 (Nat.le_refl _) (show (Tryz.prog.info? 46).map (·.size) = some 3 by kernel_rfl) ?ca1 w.heap.size HN1.out W3 (Below.refl _ _) ?_; rotate_left; intro WF hbF hbx hoth)))
    try case ca1 => first | exact ⟨rfl, rfl, rfl⟩ | (intro v hv; simp at hv; rcases hv with rfl | rfl | rfl <;> rfl)
    have HFF := Lib.hid (And.intro hbF (And.intro hbx hoth))
    obtain ⟨f0, f1, f2, ff, fl⟩ := cells3p hbx
    clear hbF hbx hoth
    go_wp2
    refine bodyPost_ret (v := .tuple #[.agg #[.int .i64 k1, .string nm1, .slice h1.oa l1.length h1.cap], .int .i64 Z]) (by simp [results, Tryz.results56, go_sem, f0, f1, f2]) rfl ⟨H3.out.2.1.trans HFF.out.1, ?_⟩
    rw [← HR2.out.1]
    refine ⟨.mk k1 nm1 h1 l1, Z, g, rfl, rfl, fun _ => HR2.out.2, TyH.und g _ _ _ (ebp_und (Nat.le_trans HB12.out.size (Nat.le_trans H3.out.2.2.size HFF.out.1.size)) fun q hq hf => ?_) HE.out.2.2⟩
    simp at hf
    exact ⟨hf.1, (HFF.out.2.2 q hf.2).trans ((H3.out.2.2.block q (Nat.lt_of_lt_of_le hq HB12.out.size)).trans (HB12.out.block q hq))⟩
  | false =>
    have he0 : ¬ er = 0 := by simpa using e1
    have hR2 : RU = R := by
      have h := HR.out
      rw [if_neg (by rw [← HE.out.1]; exact he0)] at h
      exact h
    have HR2 := Lib.hid hR2
    clear hR2 he0
    go_wp2_with (go_loud (refine wpList_store_box rfl 46 (.tmp 4) (.tmp 34) rfl (N + 1) 0 rfl (.agg #[.int .i64 k1, .string nm1, .slice h1.oa l1.length h1.cap]) rfl [.int .i64 k1, .string nm1, .slice h1.oa l1.length h1.cap] rfl [.int .i64 0, .string ⟨#[]⟩, .slice none 0 0] 46 H2.out.1 (Nat.le_refl _) (show (Tryz.prog.info? 46).map (·.size) = some 3 by kernel_rfl) ?ca2 w.heap.size HN1.out W2 (Below.refl _ _) ?_; rotate_left; intro WF hbF hbx hoth))
    try case ca2 => first | exact ⟨rfl, rfl, rfl⟩ | (intro v hv; simp at hv; rcases hv with rfl | rfl | rfl <;> rfl)
    have HFF := Lib.hid (And.intro hbF (And.intro hbx hoth))
    obtain ⟨f0, f1, f2, ff, fl⟩ := cells3p hbx
    clear hbF hbx hoth
    go_wp2
    refine bodyPost_ret (v := .tuple #[.agg #[.int .i64 k1, .string nm1, .slice h1.oa l1.length h1.cap], .int .i64 er]) (by simp [results, Tryz.results56, go_sem, f0, f1, f2]) rfl ⟨H2.out.2.trans HFF.out.1, ?_⟩
    rw [← HR2.out]
    refine ⟨.mk k1 nm1 h1 l1, er, g, rfl, HE.out.1, HE.out.2.1, TyH.und g _ _ _ (ebp_und (Nat.le_trans HB12.out.size HFF.out.1.size) fun q hq hf => ?_) HE.out.2.2⟩
    simp at hf
    exact ⟨hf.1, (HFF.out.2.2 q hf.2).trans (HB12.out.block q hq)⟩

end Go.Proofs.YtghkbihgdabamaaGreatDoor
