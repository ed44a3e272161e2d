/-
  mir's ofUses, way by way: of a use of any type (RvUse, RvBox). Conditions: the view, its source, its body and the value lie in the heap; no declared type is too large.
-/
import Derived.Test.YtghkbihgdabamaaGreatDoorKQOfSpot
namespace Go.Proofs.YtghkbihgdabamaaGreatDoor
open Go.RowKit

set_option maxRecDepth 100000 in
set_option maxHeartbeats 40000000 in
theorem ofUses_one0 (kf : Nat → Bool) (m : Nat) (s : So5) (b : Bo) (v : Nat) (hu : Hd) (uses : List Us) (xs : Sp) (which tag : Int) (w : World) (hs : SoH m w s) (hsn : SoN s) (hv : ViewAt w v s b) (hb : BoH m w b) (hx : VaH w ⟨0, hu, uses, xs, which, tag⟩) (hk : ∀ y, w.heap.size ≤ y → kf y = true) (hbk : ∀ lo ∈ b.locals, TyH m (ebp w kf) lo.ty) :
    Calls Tryz.prog 87 #[.pointer (some ⟨v, 0, none⟩), vaV ⟨0, hu, uses, xs, which, tag⟩] w fun e w' => Below w.heap.size w w' ∧ OutP kf w' (ofoR s m b ⟨0, hu, uses, xs, which, tag⟩) e := by
  obtain ⟨R, hR⟩ : ∃ R, ofoR s m b ⟨0, hu, uses, xs, which, tag⟩ = R := ⟨_, rfl⟩
  have hoo := fun W kf' h1 h2 h3 h4 => ofOne_any kf' m s b v ⟨0, hu, uses, xs, which, tag⟩ W (SoH.below hs h1) hsn (hv.below h1) (BoH.below hb h1) h4 h2 h3
  rw [hR] at hoo ⊢
  have hxb := fun W (h : Below w.heap.size w W) => VaH.below hx h
  obtain ⟨nu, hnu⟩ : ∃ n, uses.length = n := ⟨_, rfl⟩
  obtain ⟨loc, ph, path⟩ := xs
  obtain ⟨np, hnp⟩ : ∃ n, path.length = n := ⟨_, rfl⟩
  simp only [vaV, vaC, spC, List.cons_append, List.nil_append, hnu, hnp] at hoo ⊢
  obtain ⟨W0, hW⟩ : ∃ W, W = (w.alloc (.cells #[.int .i64 0, .slice hu.oa nu hu.cap, .int .i64 loc, .slice ph.oa np ph.cap, .int .i64 which, .int .i64 tag] 37)).alloc (.cells #[.int .i64 0, .string ⟨#[]⟩, .slice none 0 0] 46) := ⟨_, rfl⟩
  obtain ⟨hb0, hx0, hx1⟩ := pal2 w (.cells #[.int .i64 0, .slice hu.oa nu hu.cap, .int .i64 loc, .slice ph.oa np ph.cap, .int .i64 which, .int .i64 tag] 37) (.cells #[.int .i64 0, .string ⟨#[]⟩, .slice none 0 0] 46)
  rw [← hW] at hb0 hx0 hx1
  have hsz : W0.heap.size = w.heap.size + 2 := by rw [hW]; simp
  obtain ⟨N, hN⟩ : ∃ N, N = w.heap.size := ⟨_, rfl⟩
  rw [← hN] at hx0 hx1 hsz
  have hcall := hoo W0 (fun q => kf q && q != N + 1) hb0 (fun y hy => by
      have h1 := hk y (by omega)
      have h2 : y ≠ N + 1 := by omega
      simp [h1, h2]) (fun lo hlo => TyH.und m _ _ _ (ebp_und hb0.size fun q hq hf => ⟨by
        have h2 : q ≠ N + 1 := by omega
        simp [hf, h2], hb0.block q hq⟩) (hbk lo hlo)) (hxb W0 hb0)
  have HCL := Lib.hid hcall
  have HB0 := Lib.hid (And.intro hb0 (And.intro hx0 hx1))
  have HN1 := Lib.hid (show w.heap.size ≤ N + 1 by omega)
  obtain ⟨v0, v1, v2, v3, v4, v5⟩ : W0.cell? ⟨N, 0, none⟩ = some (.int .i64 0) ∧ W0.cell? ⟨N, 1, none⟩ = some (.slice hu.oa nu hu.cap) ∧ W0.cell? ⟨N, 2, none⟩ = some (.int .i64 loc) ∧ W0.cell? ⟨N, 3, none⟩ = some (.slice ph.oa np ph.cap) ∧ W0.cell? ⟨N, 4, none⟩ = some (.int .i64 which) ∧ W0.cell? ⟨N, 5, none⟩ = some (.int .i64 tag) := by
    refine ⟨?_, ?_, ?_, ?_, ?_, ?_⟩ <;> simp [World.cell?, hx0]
  clear hs hsn hv hb hx hk hbk hb0 hx0 hx1 hsz hcall hoo hR hnu hnp hxb
  go_enter Tryz.func87, Tryz.ntmps87
  go_upto_region 1 with fail
  rw [← hW]
  clear hW
  try simp only [← hN]
  clear hN
  go_wp2_with
    (first
      | (go_loud (go_at_call 114; refine HCL.out.mono ?_; rintro e W5 ⟨hb5, ⟨⟨k2, nm2, h2, l2⟩, er, g, rfl, her, hok, hy5⟩⟩; simp only [tyV, tyC]; have H5 := Lib.hid (And.intro ((hb5.block (N + 1) (blk_lt HB0.out.2.2)).trans HB0.out.2.2) (HB0.out.1.trans (hb5.mono HB0.out.1.size))); have HE := Lib.hid (And.intro her (And.intro hok hy5)); clear hb5 her hok hy5))
      | (go_loud (refine wpList_store_box rfl 46 (.tmp 4) (.tmp 17) rfl (N + 1) 0 rfl (.agg #[.int .i64 k2, .string nm2, .slice h2.oa l2.length h2.cap]) rfl [.int .i64 k2, .string nm2, .slice h2.oa l2.length h2.cap] rfl [.int .i64 0, .string ⟨#[]⟩, .slice none 0 0] 46 H5.out.1 (Nat.le_refl _) (show (Tryz.prog.info? 46).map (·.size) = some 3 by kernel_rfl) ?ca2 w.heap.size HN1.out W5 (Below.refl _ _) ?_; rotate_left; intro WF hbF hbx hoth)))
  try case ca2 => first | exact ⟨rfl, rfl, rfl⟩ | (intro v hv; simp at hv; rcases hv with rfl | rfl | rfl <;> rfl)
  have HFF := Lib.hid (And.intro hbF (And.intro hbx hoth))
  obtain ⟨f0, f1, f2, ff, fl⟩ := cells3p hbx
  clear hbF hbx hoth
  go_wp2
  refine bodyPost_ret (v := .tuple #[.agg #[.int .i64 k2, .string nm2, .slice h2.oa l2.length h2.cap], .int .i64 er]) (by simp [results, Tryz.results87, go_sem, f0, f1, f2]) rfl ⟨H5.out.2.trans HFF.out.1, ?_⟩
  refine ⟨.mk k2 nm2 h2 l2, er, g, rfl, HE.out.1, HE.out.2.1, TyH.und g _ _ _ (ebp_und HFF.out.1.size fun q hq hf => ?_) HE.out.2.2⟩
  simp at hf
  exact ⟨hf.1, HFF.out.2.2 q hf.2⟩
set_option maxRecDepth 100000 in
set_option maxHeartbeats 40000000 in
theorem ofUses_one8 (kf : Nat → Bool) (m : Nat) (s : So5) (b : Bo) (v : Nat) (hu : Hd) (uses : List Us) (xs : Sp) (which tag : Int) (w : World) (hs : SoH m w s) (hsn : SoN s) (hv : ViewAt w v s b) (hb : BoH m w b) (hx : VaH w ⟨8, hu, uses, xs, which, tag⟩) (hk : ∀ y, w.heap.size ≤ y → kf y = true) (hbk : ∀ lo ∈ b.locals, TyH m (ebp w kf) lo.ty) :
    Calls Tryz.prog 87 #[.pointer (some ⟨v, 0, none⟩), vaV ⟨8, hu, uses, xs, which, tag⟩] w fun e w' => Below w.heap.size w w' ∧ OutP kf w' (ofoR s m b ⟨8, hu, uses, xs, which, tag⟩) e := by
  obtain ⟨R, hR⟩ : ∃ R, ofoR s m b ⟨8, hu, uses, xs, which, tag⟩ = R := ⟨_, rfl⟩
  have hoo := fun W kf' h1 h2 h3 h4 => ofOne_any kf' m s b v ⟨8, hu, uses, xs, which, tag⟩ W (SoH.below hs h1) hsn (hv.below h1) (BoH.below hb h1) h4 h2 h3
  rw [hR] at hoo ⊢
  have hxb := fun W (h : Below w.heap.size w W) => VaH.below hx h
  obtain ⟨nu, hnu⟩ : ∃ n, uses.length = n := ⟨_, rfl⟩
  obtain ⟨loc, ph, path⟩ := xs
  obtain ⟨np, hnp⟩ : ∃ n, path.length = n := ⟨_, rfl⟩
  simp only [vaV, vaC, spC, List.cons_append, List.nil_append, hnu, hnp] at hoo ⊢
  obtain ⟨W0, hW⟩ : ∃ W, W = (w.alloc (.cells #[.int .i64 8, .slice hu.oa nu hu.cap, .int .i64 loc, .slice ph.oa np ph.cap, .int .i64 which, .int .i64 tag] 37)).alloc (.cells #[.int .i64 0, .string ⟨#[]⟩, .slice none 0 0] 46) := ⟨_, rfl⟩
  obtain ⟨hb0, hx0, hx1⟩ := pal2 w (.cells #[.int .i64 8, .slice hu.oa nu hu.cap, .int .i64 loc, .slice ph.oa np ph.cap, .int .i64 which, .int .i64 tag] 37) (.cells #[.int .i64 0, .string ⟨#[]⟩, .slice none 0 0] 46)
  rw [← hW] at hb0 hx0 hx1
  have hsz : W0.heap.size = w.heap.size + 2 := by rw [hW]; simp
  obtain ⟨N, hN⟩ : ∃ N, N = w.heap.size := ⟨_, rfl⟩
  rw [← hN] at hx0 hx1 hsz
  have hcall := hoo W0 (fun q => kf q && q != N + 1) hb0 (fun y hy => by
      have h1 := hk y (by omega)
      have h2 : y ≠ N + 1 := by omega
      simp [h1, h2]) (fun lo hlo => TyH.und m _ _ _ (ebp_und hb0.size fun q hq hf => ⟨by
        have h2 : q ≠ N + 1 := by omega
        simp [hf, h2], hb0.block q hq⟩) (hbk lo hlo)) (hxb W0 hb0)
  have HCL := Lib.hid hcall
  have HB0 := Lib.hid (And.intro hb0 (And.intro hx0 hx1))
  have HN1 := Lib.hid (show w.heap.size ≤ N + 1 by omega)
  obtain ⟨v0, v1, v2, v3, v4, v5⟩ : W0.cell? ⟨N, 0, none⟩ = some (.int .i64 8) ∧ W0.cell? ⟨N, 1, none⟩ = some (.slice hu.oa nu hu.cap) ∧ W0.cell? ⟨N, 2, none⟩ = some (.int .i64 loc) ∧ W0.cell? ⟨N, 3, none⟩ = some (.slice ph.oa np ph.cap) ∧ W0.cell? ⟨N, 4, none⟩ = some (.int .i64 which) ∧ W0.cell? ⟨N, 5, none⟩ = some (.int .i64 tag) := by
    refine ⟨?_, ?_, ?_, ?_, ?_, ?_⟩ <;> simp [World.cell?, hx0]
  clear hs hsn hv hb hx hk hbk hb0 hx0 hx1 hsz hcall hoo hR hnu hnp hxb
  go_enter Tryz.func87, Tryz.ntmps87
  go_upto_region 1 with fail
  rw [← hW]
  clear hW
  try simp only [← hN]
  clear hN
  go_wp2_with
    (first
      | (go_loud (go_at_call 114; refine HCL.out.mono ?_; rintro e W5 ⟨hb5, ⟨⟨k2, nm2, h2, l2⟩, er, g, rfl, her, hok, hy5⟩⟩; simp only [tyV, tyC]; have H5 := Lib.hid (And.intro ((hb5.block (N + 1) (blk_lt HB0.out.2.2)).trans HB0.out.2.2) (HB0.out.1.trans (hb5.mono HB0.out.1.size))); have HE := Lib.hid (And.intro her (And.intro hok hy5)); clear hb5 her hok hy5))
      | (go_loud (refine wpList_store_box rfl 46 (.tmp 4) (.tmp 17) rfl (N + 1) 0 rfl (.agg #[.int .i64 k2, .string nm2, .slice h2.oa l2.length h2.cap]) rfl [.int .i64 k2, .string nm2, .slice h2.oa l2.length h2.cap] rfl [.int .i64 0, .string ⟨#[]⟩, .slice none 0 0] 46 H5.out.1 (Nat.le_refl _) (show (Tryz.prog.info? 46).map (·.size) = some 3 by kernel_rfl) ?ca2 w.heap.size HN1.out W5 (Below.refl _ _) ?_; rotate_left; intro WF hbF hbx hoth)))
  try case ca2 => first | exact ⟨rfl, rfl, rfl⟩ | (intro v hv; simp at hv; rcases hv with rfl | rfl | rfl <;> rfl)
  have HFF := Lib.hid (And.intro hbF (And.intro hbx hoth))
  obtain ⟨f0, f1, f2, ff, fl⟩ := cells3p hbx
  clear hbF hbx hoth
  go_wp2
  refine bodyPost_ret (v := .tuple #[.agg #[.int .i64 k2, .string nm2, .slice h2.oa l2.length h2.cap], .int .i64 er]) (by simp [results, Tryz.results87, go_sem, f0, f1, f2]) rfl ⟨H5.out.2.trans HFF.out.1, ?_⟩
  refine ⟨.mk k2 nm2 h2 l2, er, g, rfl, HE.out.1, HE.out.2.1, TyH.und g _ _ _ (ebp_und HFF.out.1.size fun q hq hf => ?_) HE.out.2.2⟩
  simp at hf
  exact ⟨hf.1, HFF.out.2.2 q hf.2⟩
/-- what a value of numbers is -/
def ofuN (s : So5) (m : Nat) (b : Bo) (uses : List Us) : Int × Ty5 := (usesR s m b (fun _ t => numB t) 2 uses, .mk 1 nil5 h0 [])
set_option maxRecDepth 100000 in
set_option maxHeartbeats 40000000 in
theorem ofUses_num (kf : Nat → Bool) (m : Nat) (s : So5) (b : Bo) (v : Nat) (k : Int) (hu : Hd) (uses : List Us) (xs : Sp) (which tag : Int) (w : World) (hs : SoH m w s) (hsn : SoN s) (hv : ViewAt w v s b) (hb : BoH m w b) (hx : VaH w ⟨k, hu, uses, xs, which, tag⟩) (e0 : (k == 0) = false) (e8 : (k == 8) = false) (e10 : (k == 10) = false) (e11 : (k == 11) = false) (e12 : (k == 12) = false) :
    Calls Tryz.prog 87 #[.pointer (some ⟨v, 0, none⟩), vaV ⟨k, hu, uses, xs, which, tag⟩] w fun e w' => Below w.heap.size w w' ∧ OutP kf w' (ofuN s m b uses) e := by
  have hus := fun W (h1 : Below w.heap.size w W) => uses0_any 118 entersOfu (fun _ t => numB t) m s b v hu uses 2 W (SoH.below hs h1) hsn (hv.below h1) (BoH.below hb h1) (Row.below hx.2.1 h1 fun _ _ h => UsH.below h h1) (fun _ i y f W' _ _ _ => (ofUses1_any i y W').mono fun e w' h => ⟨by rw [numB_er]; exact h.1, h.2⟩)
  obtain ⟨UR, hUR⟩ : ∃ u, usesR s m b (fun _ t => numB t) 2 uses = u := ⟨_, rfl⟩
  obtain ⟨R, hR⟩ : ∃ R, ofuN s m b uses = R := ⟨_, rfl⟩
  rw [hR]
  rw [hUR] at hus
  have HUR := Lib.hid (show UR = R.1 by rw [← hR, ofuN]; exact hUR.symm)
  have HR := Lib.hid hR
  obtain ⟨nu, hnu⟩ : ∃ n, uses.length = n := ⟨_, rfl⟩
  obtain ⟨loc, ph, path⟩ := xs
  obtain ⟨np, hnp⟩ : ∃ n, path.length = n := ⟨_, rfl⟩
  rw [hnu] at hus
  simp only [vaV, vaC, spC, List.cons_append, List.nil_append, hnu, hnp]
  have HUS := Lib.hid hus
  obtain ⟨W0, hW⟩ : ∃ W, W = (w.alloc (.cells #[.int .i64 k, .slice hu.oa nu hu.cap, .int .i64 loc, .slice ph.oa np ph.cap, .int .i64 which, .int .i64 tag] 37)).alloc (.cells #[.int .i64 0, .string ⟨#[]⟩, .slice none 0 0] 46) := ⟨_, rfl⟩
  obtain ⟨hb0, hx0, hx1⟩ := pal2 w (.cells #[.int .i64 k, .slice hu.oa nu hu.cap, .int .i64 loc, .slice ph.oa np ph.cap, .int .i64 which, .int .i64 tag] 37) (.cells #[.int .i64 0, .string ⟨#[]⟩, .slice none 0 0] 46)
  rw [← hW] at hb0 hx0 hx1
  obtain ⟨N, hN⟩ : ∃ N, N = w.heap.size := ⟨_, rfl⟩
  rw [← hN] at hx0 hx1
  have HB0 := Lib.hid (And.intro hb0 (And.intro hx0 hx1))
  have HN1 := Lib.hid (show w.heap.size ≤ N + 1 by omega)
  obtain ⟨v0, v1⟩ : W0.cell? ⟨N, 0, none⟩ = some (.int .i64 k) ∧ W0.cell? ⟨N, 1, none⟩ = some (.slice hu.oa nu hu.cap) := by
    refine ⟨?_, ?_⟩ <;> simp [World.cell?, hx0]
  have HV1 := Lib.hid (show ∀ W, Below W0.heap.size W0 W → W.cell? ⟨N, 1, none⟩ = some (.slice hu.oa nu hu.cap) from fun W h => (h.cell (p := ⟨N, 1, none⟩) (World.block_lt_of_cell? W0 _ v1)).trans v1)
  clear hs hsn hv hb hx hb0 hx0 hx1 hus hUR hR hnu hnp
  go_enter Tryz.func87, Tryz.ntmps87
  go_upto_region 1 with fail
  rw [← hW]
  clear hW
  try simp only [← hN]
  clear hN
  go_upto_region 14 with fail
  refine wp_region_held_drew (S := (fun w' => w'.cell? ⟨N, 1, none⟩ = some (.slice hu.oa nu hu.cap))) (by kernel_rfl) ?_ (fun hHeld => ?_)
  · exact v1
  clear v0 v1
  refine wpAnyH_take (i := 1) (oi := { dst := some 85, op := Op.move (Operand.tmp 0), type := 85, pos := "value.go:116", after := #[], guard := none }) (v := ?vq1_1) rfl (by kernel_rfl) (by kernel_rfl) (by kernel_rfl) (fun _ _ _ h => h) (Or.inl ⟨by rfl, ?hq1_1⟩) (by assumption) ?_
  case hq1_1 => intro w hSw; (try dsimp only at hSw); go_simp; try (with_reducible rfl)
  (try simp only [Act.put, qA, qB, qC])
  refine wpAnyH_take (i := 2) (oi := { dst := some 86, op := Op.fieldAddr 37 (Operand.tmp 3) 1, type := 0, pos := "value.go:116", after := #[], guard := none }) (v := ?vq2_2) rfl (by kernel_rfl) (by kernel_rfl) (by kernel_rfl) (fun _ _ _ h => h) (Or.inl ⟨by rfl, ?hq2_2⟩) (by assumption) ?_
  case hq2_2 => intro w hSw; (try dsimp only at hSw); go_simp; try (with_reducible rfl)
  (try simp only [Act.put, qA, qB, qC])
  refine wpAnyH_take (i := 3) (oi := { dst := some 87, op := Op.load 35 (Operand.tmp 86), type := 35, pos := "value.go:116", after := #[{ on := 2, ground := Ground.data }], guard := none }) (v := ?vq3_3) rfl (by kernel_rfl) (by kernel_rfl) (by kernel_rfl) (fun _ _ _ h => h) (Or.inl ⟨by rfl, ?hq3_3⟩) (by assumption) ?_
  case hq3_3 => intro w hSw; (try dsimp only at hSw); go_simp; try (with_reducible rfl)
  (try simp only [Act.put, qA, qB, qC])
  refine wpAnyH_ready (rs := [0]) (by kernel_rfl) (by simp) ?_
  refine AllReadyH.cons (o := { dst := some 84, op := Op.call { callee := Callee.value (Operand.func 117), args := #[], argTypes := #[] }, type := 46, pos := "value.go:116", after := #[], guard := none }) rfl (fun K hK => ?_) AllReadyH.nil
  go_simp
  refine (mnumber_any W0.drew).mono ?_
  rintro e W3 ⟨rfl, hb3⟩
  have HK3 := Lib.hid (show Below W0.heap.size W0 W3 from (show Below W0.heap.size W0 W0.drew from ⟨rfl, rfl, rfl, Nat.le_refl _, fun _ _ => rfl⟩).trans hb3)
  clear hb3
  refine hK.out _ _ ?_ (fun hHeld => ?_)
  · exact HV1.out W3 HK3.out
  clear hK K
  (try simp only [Act.put, qA, qB, qC])
  refine wpAnyH_ready (rs := [4]) (by kernel_rfl) (by simp) ?_
  refine AllReadyH.cons (o := { dst := some 88, op := Op.call { callee := Callee.value (Operand.func 89), args := #[Operand.tmp 85, Operand.tmp 87, Operand.const (Value.int IntKind.i64 2), Operand.func 118], argTypes := #[85, 35, 3, 181] }, type := 47, pos := "value.go:116", after := #[{ on := 1, ground := Ground.data }, { on := 3, ground := Ground.data }, { on := 0, ground := Ground.chain }], guard := none }) rfl (fun K hK => ?_) AllReadyH.nil
  go_simp
  refine (HUS.out W3 (HB0.out.1.trans (HK3.out.mono HB0.out.1.size))).mono ?_
  rintro e W4 ⟨rfl, hb4⟩
  have HK4 := Lib.hid (HK3.out.trans (hb4.mono HK3.out.size))
  clear hb4
  refine hK.out _ _ ?_ (fun hHeld => ?_)
  · exact HV1.out W4 HK4.out
  clear hK K
  (try simp only [Act.put, qA, qB, qC])
  refine wpAnyH_ready (rs := [5]) (by kernel_rfl) (by simp) ?_
  refine AllReadyH.cons (o := { dst := none, op := Op.store 46 (Operand.tmp 4) (Operand.tmp 84), type := 0, pos := "value.go:116", after := #[{ on := 0, ground := Ground.data }, { on := 4, ground := Ground.chain }, { on := 0, ground := Ground.phase }, { on := 1, ground := Ground.textOnly Departure.lateStores }, { on := 2, ground := Ground.textOnly Departure.lateStores }, { on := 3, ground := Ground.textOnly Departure.lateStores }, { on := 4, ground := Ground.textOnly Departure.lateStoresUnsure }], guard := none }) rfl (fun K hK => ?_) AllReadyH.nil
  try rw [if_pos (by rfl)]
  refine wp_store_box 46 (.tmp 4) (.tmp 84) rfl (N + 1) 0 rfl (.agg #[.int .i64 1, .string ⟨#[]⟩, .slice none 0 0]) rfl [.int .i64 1, .string ⟨#[]⟩, .slice none 0 0] rfl [.int .i64 0, .string ⟨#[]⟩, .slice none 0 0] 46 ((HK4.out.block (N + 1) (blk_lt HB0.out.2.2)).trans HB0.out.2.2) (Nat.le_refl _) (show (Tryz.prog.info? 46).map (·.size) = some 3 by kernel_rfl) ?cb9 (N + 1) (Nat.le_refl _) W4 (Below.refl _ _) ?_
  try case cb9 => first | exact ⟨rfl, rfl, rfl⟩ | (intro v hv; simp at hv; rcases hv with rfl | rfl | rfl <;> rfl)
  intro WF hb hbx hoth
  have HF := Lib.hid (show Below w.heap.size w WF from (HB0.out.1.trans (HK4.out.mono HB0.out.1.size)).trans (hb.mono HN1.out))
  have HFX := Lib.hid hbx
  have HVF := Lib.hid ((World.cell?_of_block (a := ⟨N, 1, none⟩) (hoth N (by omega))).trans (HV1.out W4 HK4.out))
  clear hb hbx hoth
  refine hK.out _ _ ?_ (fun hHeld => ?_)
  · exact HVF.out
  clear hK K
  (try simp only [Act.put, qA, qB, qC])
  refine wpAnyH_take (i := 6) (oi := { dst := some 5, op := Op.assign (Operand.tmp 88), type := 47, pos := "value.go:116", after := #[{ on := 4, ground := Ground.data }, { on := 5, ground := Ground.chain }, { on := 0, ground := Ground.phase }, { on := 1, ground := Ground.phase }, { on := 2, ground := Ground.phase }, { on := 3, ground := Ground.phase }, { on := 4, ground := Ground.phase }, { on := 5, ground := Ground.phase }], guard := none }) (v := ?vq6_4) rfl (by kernel_rfl) (by kernel_rfl) (by kernel_rfl) (fun _ _ _ h => h) (Or.inl ⟨by rfl, ?hq6_4⟩) (by assumption) ?_
  case hq6_4 => intro w hSw; (try dsimp only at hSw); go_simp; try (with_reducible rfl)
  (try simp only [Act.put, qA, qB, qC])
  refine wpAnyH_done (by kernel_rfl) ?_ _
  obtain ⟨f0, f1, f2, ff, fl⟩ := cells3p HFX.out
  go_wp2
  refine bodyPost_ret (v := .tuple #[.agg #[.int .i64 1, .string ⟨#[]⟩, .slice none 0 0], .int .i64 UR]) (by simp [results, Tryz.results87, go_sem, f0, f1, f2]) rfl ⟨HF.out, ?_⟩
  exact ⟨.mk 1 ⟨#[]⟩ h0 [], UR, 1, rfl, HUR.out, fun _ => by rw [← HR.out]; rfl, ⟨by unfold I64; omega, Row.nil _ _ _ _⟩⟩
/-- what a value of a struct is -/
def ofuM (s : So5) (m : Nat) (b : Bo) (d : Su5) (uses : List Us) : Int × Ty5 := (usesR s m b (hanF s m d.fields) d.fields.length uses, .mk 2 d.nm h0 [])
set_option maxRecDepth 100000 in
set_option maxHeartbeats 40000000 in
theorem ofUses_make (kf : Nat → Bool) (m : Nat) (s : So5) (b : Bo) (v : Nat) (hu : Hd) (uses : List Us) (xs : Sp) (i : Nat) (d : Su5) (tag : Int) (w : World) (hs : SoH m w s) (hsn : SoN s) (hv : ViewAt w v s b) (hb : BoH m w b) (hx : VaH w ⟨10, hu, uses, xs, (i : Int), tag⟩) (hd : s.structs[i]? = some d) :
    Calls Tryz.prog 87 #[.pointer (some ⟨v, 0, none⟩), vaV ⟨10, hu, uses, xs, (i : Int), tag⟩] w fun e w' => Below w.heap.size w w' ∧ OutP kf w' (ofuM s m b d uses) e := by
  have hdm : d ∈ s.structs := List.mem_of_getElem? hd
  have hin : i < s.structs.length := (List.getElem?_eq_some_iff.1 hd).1
  have hha := fun W (h1 : Below w.heap.size w W) => handed_any m s b v hu d.h uses d.fields W (SoH.below hs h1) hsn (hv.below h1) (BoH.below hb h1) (Row.below hx.2.1 h1 fun _ _ h => UsH.below h h1) (Row.below (hs.1.2.2.2 d hdm) h1 fun _ _ h => FdH.below h h1) (hsn.1 d hdm)
  obtain ⟨UR, hUR⟩ : ∃ u, usesR s m b (hanF s m d.fields) d.fields.length uses = u := ⟨_, rfl⟩
  obtain ⟨R, hR⟩ : ∃ R, ofuM s m b d uses = R := ⟨_, rfl⟩
  rw [hR]
  rw [hUR] at hha
  have HUR := Lib.hid (show UR = R.1 by rw [← hR, ofuM]; exact hUR.symm)
  obtain ⟨bs, os, hos, hbs, hcs⟩ := hs.1.2.2.1 (by omega)
  have hcd := hcs i d hd
  have hg0 := (cells7 hv).1
  obtain ⟨c1, hc1⟩ : ∃ c, s.hs.cap = c := ⟨_, rfl⟩
  obtain ⟨n1, hn1⟩ : ∃ n, s.structs.length = n := ⟨_, rfl⟩
  rw [hos, hc1, hn1] at hg0
  rw [hn1] at hin
  obtain ⟨dn, dd, dh, df, dp⟩ := d
  obtain ⟨nf, hnf⟩ : ∃ n, df.length = n := ⟨_, rfl⟩
  dsimp only at hha
  have HR := Lib.hid hR
  obtain ⟨nu, hnu⟩ : ∃ n, uses.length = n := ⟨_, rfl⟩
  obtain ⟨loc, ph, path⟩ := xs
  obtain ⟨np, hnp⟩ : ∃ n, path.length = n := ⟨_, rfl⟩
  rw [hnu, hnf] at hha
  simp only [vaV, vaC, spC, List.cons_append, List.nil_append, hnu, hnp]
  have HHA := Lib.hid hha
  have g0 : w.cell? ⟨bs, os + i * 4, none⟩ = some (.string dn) := by simpa using hcd 0 _ rfl
  have g1 : w.cell? ⟨bs, os + i * 4 + 1, none⟩ = some (.bool dd) := hcd 1 _ rfl
  have g2 : w.cell? ⟨bs, os + i * 4 + 2, none⟩ = some (.slice dh.oa nf dh.cap) := by rw [← hnf]; exact hcd 2 _ rfl
  have g3 : w.cell? ⟨bs, os + i * 4 + 3, none⟩ = some (.int .i64 dp) := hcd 3 _ rfl
  obtain ⟨W0, hW⟩ : ∃ W, W = (w.alloc (.cells #[.int .i64 10, .slice hu.oa nu hu.cap, .int .i64 loc, .slice ph.oa np ph.cap, .int .i64 (i : Int), .int .i64 tag] 37)).alloc (.cells #[.int .i64 0, .string ⟨#[]⟩, .slice none 0 0] 46) := ⟨_, rfl⟩
  obtain ⟨hb0, hx0, hx1⟩ := pal2 w (.cells #[.int .i64 10, .slice hu.oa nu hu.cap, .int .i64 loc, .slice ph.oa np ph.cap, .int .i64 (i : Int), .int .i64 tag] 37) (.cells #[.int .i64 0, .string ⟨#[]⟩, .slice none 0 0] 46)
  rw [← hW] at hb0 hx0 hx1
  obtain ⟨N, hN⟩ : ∃ N, N = w.heap.size := ⟨_, rfl⟩
  rw [← hN] at hx0 hx1
  have HB0 := Lib.hid (And.intro hb0 (And.intro hx0 hx1))
  have HN1 := Lib.hid (show w.heap.size ≤ N + 1 by omega)
  have v0 : W0.cell? ⟨N, 0, none⟩ = some (.int .i64 10) := by simp [World.cell?, hx0]
  have v1 : W0.cell? ⟨N, 1, none⟩ = some (.slice hu.oa nu hu.cap) := by simp [World.cell?, hx0]
  have v4 : W0.cell? ⟨N, 4, none⟩ = some (.int .i64 (i : Int)) := by simp [World.cell?, hx0]
  have HV1 := Lib.hid (show ∀ W, Below W0.heap.size W0 W → W.cell? ⟨N, 1, none⟩ = some (.slice hu.oa nu hu.cap) from fun W h => (h.cell (p := ⟨N, 1, none⟩) (World.block_lt_of_cell? W0 _ v1)).trans v1)
  have HS := Lib.hid (show ∀ W, Below W0.heap.size W0 W → W.cell? ⟨v, 0, none⟩ = some (.slice (some ⟨bs, os, none⟩) n1 c1) ∧ W.cell? ⟨N, 4, none⟩ = some (.int .i64 (i : Int)) ∧ W.cell? ⟨bs, os + i * 4, none⟩ = some (.string dn) ∧ W.cell? ⟨bs, os + i * 4 + 1, none⟩ = some (.bool dd) ∧ W.cell? ⟨bs, os + i * 4 + 2, none⟩ = some (.slice dh.oa nf dh.cap) ∧ W.cell? ⟨bs, os + i * 4 + 3, none⟩ = some (.int .i64 dp) from fun W h => by
    have hbw : Below w.heap.size w W := hb0.trans (h.mono hb0.size)
    exact ⟨(hbw.cell (World.block_lt_of_cell? w _ hg0)).trans hg0, (h.cell (World.block_lt_of_cell? W0 _ v4)).trans v4, (hbw.cell (World.block_lt_of_cell? w _ g0)).trans g0, (hbw.cell (World.block_lt_of_cell? w _ g1)).trans g1, (hbw.cell (World.block_lt_of_cell? w _ g2)).trans g2, (hbw.cell (World.block_lt_of_cell? w _ g3)).trans g3⟩)
  have ti0 : (0 : Int) ≤ i := by omega
  have ti1 : (i : Int) < n1 := by omega
  clear hs hsn hv hb hx hb0 hx0 hx1 hha hUR hR hnu hnp hd hdm hos hbs hcs hcd hg0 hc1 hn1 hin hnf g0 g1 g2 g3 v1 v4
  go_enter Tryz.func87, Tryz.ntmps87
  go_upto_region 1 with fail
  rw [← hW]
  clear hW
  try simp only [← hN]
  clear hN
  go_upto_region 6 with fail
  refine wp_region_held_drew (S := (fun w' => w'.cell? ⟨v, 0, none⟩ = some (.slice (some ⟨bs, os, none⟩) n1 c1) ∧ w'.cell? ⟨N, 4, none⟩ = some (.int .i64 (i : Int)) ∧ w'.cell? ⟨bs, os + i * 4, none⟩ = some (.string dn) ∧ w'.cell? ⟨bs, os + i * 4 + 1, none⟩ = some (.bool dd) ∧ w'.cell? ⟨bs, os + i * 4 + 2, none⟩ = some (.slice dh.oa nf dh.cap) ∧ w'.cell? ⟨bs, os + i * 4 + 3, none⟩ = some (.int .i64 dp))) (by kernel_rfl) ?_ (fun hHeld => ?_)
  · exact HS.out W0 (Below.refl _ _)
  clear v0
  refine wpAnyH_take (i := 0) (oi := { dst := some 21, op := Op.move (Operand.tmp 0), type := 85, pos := "value.go:107", after := #[], guard := none }) (v := ?vq0_5) rfl (by kernel_rfl) (by kernel_rfl) (by kernel_rfl) (fun _ _ _ h => h) (Or.inl ⟨by rfl, ?hq0_5⟩) (by assumption) ?_
  case hq0_5 => intro w hSw; (try dsimp only at hSw); go_simp; try (with_reducible rfl)
  (try simp only [Act.put, qA, qB, qC])
  refine wpAnyH_take (i := 1) (oi := { dst := some 22, op := Op.nilCheck (Operand.tmp 21), type := 0, pos := "value.go:107", after := #[{ on := 0, ground := Ground.data }], guard := none }) (v := ?vq1_6) rfl (by kernel_rfl) (by kernel_rfl) (by kernel_rfl) (fun _ _ _ h => h) (Or.inl ⟨by rfl, ?hq1_6⟩) (by assumption) ?_
  case hq1_6 => intro w hSw; (try dsimp only at hSw); go_simp; try (with_reducible rfl)
  (try simp only [Act.put, qA, qB, qC])
  refine wpAnyH_take (i := 2) (oi := { dst := some 23, op := Op.fieldAddr 87 (Operand.tmp 22) 0, type := 0, pos := "value.go:107", after := #[{ on := 1, ground := Ground.data }], guard := none }) (v := ?vq2_7) rfl (by kernel_rfl) (by kernel_rfl) (by kernel_rfl) (fun _ _ _ h => h) (Or.inl ⟨by rfl, ?hq2_7⟩) (by assumption) ?_
  case hq2_7 => intro w hSw; (try dsimp only at hSw); go_simp; try (with_reducible rfl)
  (try simp only [Act.put, qA, qB, qC])
  refine wpAnyH_take (i := 3) (oi := { dst := some 24, op := Op.fieldAddr 26 (Operand.tmp 23) 0, type := 0, pos := "value.go:107", after := #[{ on := 2, ground := Ground.data }], guard := none }) (v := ?vq3_8) rfl (by kernel_rfl) (by kernel_rfl) (by kernel_rfl) (fun _ _ _ h => h) (Or.inl ⟨by rfl, ?hq3_8⟩) (by assumption) ?_
  case hq3_8 => intro w hSw; (try dsimp only at hSw); go_simp; try (with_reducible rfl)
  (try simp only [Act.put, qA, qB, qC])
  refine wpAnyH_take (i := 4) (oi := { dst := some 25, op := Op.load 22 (Operand.tmp 24), type := 22, pos := "value.go:107", after := #[{ on := 3, ground := Ground.data }], guard := none }) (v := ?vq4_9) rfl (by kernel_rfl) (by kernel_rfl) (by kernel_rfl) (fun _ _ _ h => h) (Or.inl ⟨by rfl, ?hq4_9⟩) (by assumption) ?_
  case hq4_9 => intro w hSw; (try dsimp only at hSw); go_simp; try (with_reducible rfl)
  (try simp only [Act.put, qA, qB, qC])
  refine wpAnyH_take (i := 5) (oi := { dst := some 26, op := Op.fieldAddr 37 (Operand.tmp 3) 3, type := 0, pos := "value.go:107", after := #[], guard := none }) (v := ?vq5_10) rfl (by kernel_rfl) (by kernel_rfl) (by kernel_rfl) (fun _ _ _ h => h) (Or.inl ⟨by rfl, ?hq5_10⟩) (by assumption) ?_
  case hq5_10 => intro w hSw; (try dsimp only at hSw); go_simp; try (with_reducible rfl)
  (try simp only [Act.put, qA, qB, qC])
  refine wpAnyH_take (i := 6) (oi := { dst := some 27, op := Op.load 3 (Operand.tmp 26), type := 3, pos := "value.go:107", after := #[{ on := 5, ground := Ground.data }], guard := none }) (v := ?vq6_11) rfl (by kernel_rfl) (by kernel_rfl) (by kernel_rfl) (fun _ _ _ h => h) (Or.inl ⟨by rfl, ?hq6_11⟩) (by assumption) ?_
  case hq6_11 => intro w hSw; (try dsimp only at hSw); go_simp; try (with_reducible rfl)
  (try simp only [Act.put, qA, qB, qC])
  refine wpAnyH_take (i := 7) (oi := { dst := some 28, op := Op.indexAddr 22 (Operand.tmp 25) (Operand.tmp 27), type := 0, pos := "value.go:107", after := #[{ on := 4, ground := Ground.data }, { on := 6, ground := Ground.data }], guard := none }) (v := ?vq7_12) rfl (by kernel_rfl) (by kernel_rfl) (by kernel_rfl) (fun _ _ _ h => h) (Or.inl ⟨by rfl, ?hq7_12⟩) (by assumption) ?_
  case hq7_12 => intro w hSw; (try dsimp only at hSw); go_simp; try (with_reducible rfl)
  (try simp only [Act.put, qA, qB, qC])
  refine wpAnyH_take (i := 8) (oi := { dst := some 29, op := Op.load 71 (Operand.tmp 28), type := 71, pos := "value.go:107", after := #[{ on := 7, ground := Ground.data }], guard := none }) (v := ?vq8_13) rfl (by kernel_rfl) (by kernel_rfl) (by kernel_rfl) (fun _ _ _ h => h) (Or.inl ⟨by rfl, ?hq8_13⟩) (by assumption) ?_
  case hq8_13 => intro w hSw; (try dsimp only at hSw); go_simp; try (with_reducible rfl)
  (try simp only [Act.put, qA, qB, qC])
  refine wpAnyH_ready (rs := [9]) (by kernel_rfl) (by simp) ?_
  refine AllReadyH.cons (o := { dst := some 6, op := Op.alloc 71, type := 0, pos := "value.go:107", after := #[], guard := none }) rfl (fun K hK => ?_) AllReadyH.nil
  go_simp
  obtain ⟨M, hM⟩ : ∃ M, M = W0.heap.size := ⟨_, rfl⟩
  obtain ⟨W1, hW1⟩ : ∃ W, W = (W0.alloc (.cells #[.string ⟨#[]⟩, .bool false, .slice none 0 0, .int .i64 0] 71)).drew := ⟨_, rfl⟩
  rw [← hW1]
  have HM1 := Lib.hid (show W1.heap[M]? = some (.cells #[.string ⟨#[]⟩, .bool false, .slice none 0 0, .int .i64 0] 71) ∧ W0.heap.size ≤ M ∧ Below W0.heap.size W0 W1 from ⟨by rw [hW1, hM]; exact heap_alloc_new W0 _, Nat.le_of_eq hM.symm, by rw [hW1]; exact (alloc_below W0 (.cells #[.string ⟨#[]⟩, .bool false, .slice none 0 0, .int .i64 0] 71)).trans ⟨rfl, rfl, rfl, Nat.le_refl _, fun _ _ => rfl⟩⟩)
  try simp only [← hM]
  clear hM hW1
  refine hK.out _ _ ?_ (fun hHeld => ?_)
  · exact HS.out W1 HM1.out.2.2
  clear hK K
  (try simp only [Act.put, qA, qB, qC])
  refine wpAnyH_ready (rs := [10]) (by kernel_rfl) (by simp) ?_
  refine AllReadyH.cons (o := { dst := none, op := Op.store 71 (Operand.tmp 6) (Operand.tmp 29), type := 0, pos := "value.go:107", after := #[{ on := 9, ground := Ground.data }, { on := 8, ground := Ground.data }, { on := 0, ground := Ground.phase }, { on := 1, ground := Ground.phase }, { on := 2, ground := Ground.phase }, { on := 3, ground := Ground.phase }, { on := 4, ground := Ground.phase }, { on := 5, ground := Ground.phase }, { on := 6, ground := Ground.phase }, { on := 7, ground := Ground.phase }, { on := 8, ground := Ground.phase }, { on := 9, ground := Ground.phase }], guard := none }) rfl (fun K hK => ?_) AllReadyH.nil
  try rw [if_pos (by rfl)]
  refine wp_store_box 71 (.tmp 6) (.tmp 29) rfl M 0 rfl (.agg #[.string dn, .bool dd, .slice dh.oa nf dh.cap, .int .i64 dp]) rfl [.string dn, .bool dd, .slice dh.oa nf dh.cap, .int .i64 dp] rfl [.string ⟨#[]⟩, .bool false, .slice none 0 0, .int .i64 0] 71 HM1.out.1 (Nat.le_refl _) (show (Tryz.prog.info? 71).map (·.size) = some 4 by kernel_rfl) ?cx1 M (Nat.le_refl _) W1 (Below.refl _ _) ?_
  try case cx1 => first | exact ⟨rfl, rfl, rfl, rfl⟩ | (intro v hv; simp at hv; rcases hv with rfl | rfl | rfl | rfl <;> rfl)
  intro W2 hb hbx hoth
  have HK2 := Lib.hid (show Below W0.heap.size W0 W2 from HM1.out.2.2.trans (hb.mono HM1.out.2.1))
  have HM2 := Lib.hid (And.intro hbx HM1.out.2.1)
  clear hb hbx hoth HM1
  refine hK.out _ _ ?_ (fun hHeld => ?_)
  · exact HS.out W2 HK2.out
  clear hK K
  (try simp only [Act.put, qA, qB, qC])
  refine wpAnyH_done (by kernel_rfl) ?_ _
  have HV2 := Lib.hid (show ∀ W, Below W2.heap.size W2 W → W.cell? ⟨N, 1, none⟩ = some (.slice hu.oa nu hu.cap) ∧ W.cell? ⟨M, 0, none⟩ = some (.string dn) ∧ W.cell? ⟨M, 2, none⟩ = some (.slice dh.oa nf dh.cap) from fun W h => ⟨HV1.out W (HK2.out.trans (h.mono HK2.out.size)), (cells4p ((h.block M (blk_lt HM2.out.1)).trans HM2.out.1)).1, (cells4p ((h.block M (blk_lt HM2.out.1)).trans HM2.out.1)).2.2.1⟩)
  go_upto_region 7 with fail
  refine wp_region_held_drew (S := (fun w' => w'.cell? ⟨N, 1, none⟩ = some (.slice hu.oa nu hu.cap) ∧ w'.cell? ⟨M, 0, none⟩ = some (.string dn) ∧ w'.cell? ⟨M, 2, none⟩ = some (.slice dh.oa nf dh.cap))) (by kernel_rfl) ?_ (fun hHeld => ?_)
  · exact HV2.out W2 (Below.refl _ _)
  refine wpAnyH_take (i := 0) (oi := { dst := some 30, op := Op.fieldAddr 71 (Operand.tmp 6) 0, type := 0, pos := "value.go:108", after := #[], guard := none }) (v := ?vq0_14) rfl (by kernel_rfl) (by kernel_rfl) (by kernel_rfl) (fun _ _ _ h => h) (Or.inl ⟨by rfl, ?hq0_14⟩) (by assumption) ?_
  case hq0_14 => intro w hSw; (try dsimp only at hSw); go_simp; try (with_reducible rfl)
  (try simp only [Act.put, qA, qB, qC])
  refine wpAnyH_take (i := 1) (oi := { dst := some 31, op := Op.load 9 (Operand.tmp 30), type := 9, pos := "value.go:108", after := #[{ on := 0, ground := Ground.data }], guard := none }) (v := ?vq1_15) rfl (by kernel_rfl) (by kernel_rfl) (by kernel_rfl) (fun _ _ _ h => h) (Or.inl ⟨by rfl, ?hq1_15⟩) (by assumption) ?_
  case hq1_15 => intro w hSw; (try dsimp only at hSw); go_simp; try (with_reducible rfl)
  (try simp only [Act.put, qA, qB, qC])
  refine wpAnyH_take (i := 2) (oi := { dst := some 32, op := Op.build 46 #[(0, Operand.const (Value.int IntKind.i64 2)), (1, Operand.tmp 31)], type := 46, pos := "value.go:108", after := #[{ on := 1, ground := Ground.data }], guard := none }) (v := ?vq2_16) rfl (by kernel_rfl) (by kernel_rfl) (by kernel_rfl) (fun _ _ _ h => h) (Or.inl ⟨by rfl, ?hq2_16⟩) (by assumption) ?_
  case hq2_16 => intro w hSw; (try dsimp only at hSw); go_simp; try (with_reducible rfl)
  (try simp only [Act.put, qA, qB, qC])
  refine wpAnyH_take (i := 3) (oi := { dst := some 33, op := Op.move (Operand.tmp 0), type := 85, pos := "value.go:108", after := #[], guard := none }) (v := ?vq3_17) rfl (by kernel_rfl) (by kernel_rfl) (by kernel_rfl) (fun _ _ _ h => h) (Or.inl ⟨by rfl, ?hq3_17⟩) (by assumption) ?_
  case hq3_17 => intro w hSw; (try dsimp only at hSw); go_simp; try (with_reducible rfl)
  (try simp only [Act.put, qA, qB, qC])
  refine wpAnyH_take (i := 4) (oi := { dst := some 34, op := Op.fieldAddr 37 (Operand.tmp 3) 1, type := 0, pos := "value.go:108", after := #[], guard := none }) (v := ?vq4_18) rfl (by kernel_rfl) (by kernel_rfl) (by kernel_rfl) (fun _ _ _ h => h) (Or.inl ⟨by rfl, ?hq4_18⟩) (by assumption) ?_
  case hq4_18 => intro w hSw; (try dsimp only at hSw); go_simp; try (with_reducible rfl)
  (try simp only [Act.put, qA, qB, qC])
  refine wpAnyH_take (i := 5) (oi := { dst := some 35, op := Op.load 35 (Operand.tmp 34), type := 35, pos := "value.go:108", after := #[{ on := 4, ground := Ground.data }], guard := none }) (v := ?vq5_19) rfl (by kernel_rfl) (by kernel_rfl) (by kernel_rfl) (fun _ _ _ h => h) (Or.inl ⟨by rfl, ?hq5_19⟩) (by assumption) ?_
  case hq5_19 => intro w hSw; (try dsimp only at hSw); go_simp; try (with_reducible rfl)
  (try simp only [Act.put, qA, qB, qC])
  refine wpAnyH_take (i := 6) (oi := { dst := some 36, op := Op.fieldAddr 71 (Operand.tmp 6) 2, type := 0, pos := "value.go:108", after := #[], guard := none }) (v := ?vq6_20) rfl (by kernel_rfl) (by kernel_rfl) (by kernel_rfl) (fun _ _ _ h => h) (Or.inl ⟨by rfl, ?hq6_20⟩) (by assumption) ?_
  case hq6_20 => intro w hSw; (try dsimp only at hSw); go_simp; try (with_reducible rfl)
  (try simp only [Act.put, qA, qB, qC])
  refine wpAnyH_take (i := 7) (oi := { dst := some 37, op := Op.load 69 (Operand.tmp 36), type := 69, pos := "value.go:108", after := #[{ on := 6, ground := Ground.data }], guard := none }) (v := ?vq7_21) rfl (by kernel_rfl) (by kernel_rfl) (by kernel_rfl) (fun _ _ _ h => h) (Or.inl ⟨by rfl, ?hq7_21⟩) (by assumption) ?_
  case hq7_21 => intro w hSw; (try dsimp only at hSw); go_simp; try (with_reducible rfl)
  (try simp only [Act.put, qA, qB, qC])
  refine wpAnyH_ready (rs := [8]) (by kernel_rfl) (by simp) ?_
  refine AllReadyH.cons (o := { dst := some 38, op := Op.call { callee := Callee.value (Operand.func 115), args := #[Operand.tmp 33, Operand.tmp 35, Operand.tmp 37], argTypes := #[85, 35, 69] }, type := 47, pos := "value.go:108", after := #[{ on := 3, ground := Ground.data }, { on := 5, ground := Ground.data }, { on := 7, ground := Ground.data }], guard := none }) rfl (fun K hK => ?_) AllReadyH.nil
  go_simp
  have HD := Lib.hid (show Below W2.heap.size W2 W2.drew from ⟨rfl, rfl, rfl, Nat.le_refl _, fun _ _ => rfl⟩)
  refine (HHA.out W2.drew (HB0.out.1.trans ((HK2.out.trans (HD.out.mono HK2.out.size)).mono HB0.out.1.size))).mono ?_
  rintro e W3 ⟨rfl, hb3⟩
  have HK3 := Lib.hid (HD.out.trans hb3)
  clear hb3
  refine hK.out _ _ ?_ (fun hHeld => ?_)
  · exact HV2.out W3 HK3.out
  clear hK K
  (try simp only [Act.put, qA, qB, qC])
  refine wpAnyH_ready (rs := [9]) (by kernel_rfl) (by simp) ?_
  refine AllReadyH.cons (o := { dst := none, op := Op.store 46 (Operand.tmp 4) (Operand.tmp 32), type := 0, pos := "value.go:108", after := #[{ on := 2, ground := Ground.data }, { on := 8, ground := Ground.chain }, { on := 0, ground := Ground.phase }, { on := 1, ground := Ground.phase }, { on := 2, ground := Ground.phase }, { on := 3, ground := Ground.textOnly Departure.lateStores }, { on := 4, ground := Ground.textOnly Departure.lateStores }, { on := 5, ground := Ground.textOnly Departure.lateStores }, { on := 6, ground := Ground.textOnly Departure.lateStores }, { on := 7, ground := Ground.textOnly Departure.lateStores }, { on := 8, ground := Ground.textOnly Departure.lateStoresUnsure }], guard := none }) rfl (fun K hK => ?_) AllReadyH.nil
  try rw [if_pos (by rfl)]
  have HK4 := Lib.hid (HK2.out.trans (HK3.out.mono HK2.out.size))
  refine wp_store_box 46 (.tmp 4) (.tmp 32) rfl (N + 1) 0 rfl (.agg #[.int .i64 2, .string dn, .slice none 0 0]) rfl [.int .i64 2, .string dn, .slice none 0 0] rfl [.int .i64 0, .string ⟨#[]⟩, .slice none 0 0] 46 ((HK4.out.block (N + 1) (blk_lt HB0.out.2.2)).trans HB0.out.2.2) (Nat.le_refl _) (show (Tryz.prog.info? 46).map (·.size) = some 3 by kernel_rfl) ?cb9 (N + 1) (Nat.le_refl _) W3 (Below.refl _ _) ?_
  try case cb9 => first | exact ⟨rfl, rfl, rfl⟩ | (intro v hv; simp at hv; rcases hv with rfl | rfl | rfl <;> rfl)
  intro WF hb hbx hoth
  have HF := Lib.hid (show Below w.heap.size w WF from (HB0.out.1.trans (HK4.out.mono HB0.out.1.size)).trans (hb.mono HN1.out))
  have HFX := Lib.hid hbx
  have hnm : M ≠ N + 1 := fun e => by have h1 := HM2.out.2; have h2 := blk_lt HB0.out.2.2; omega
  have HVF := Lib.hid (And.intro ((World.cell?_of_block (a := ⟨N, 1, none⟩) (hoth N (by omega))).trans (HV2.out W3 HK3.out).1) (And.intro ((World.cell?_of_block (a := ⟨M, 0, none⟩) (hoth M hnm)).trans (HV2.out W3 HK3.out).2.1) ((World.cell?_of_block (a := ⟨M, 2, none⟩) (hoth M hnm)).trans (HV2.out W3 HK3.out).2.2)))
  clear hb hbx hoth hnm
  refine hK.out _ _ ?_ (fun hHeld => ?_)
  · exact HVF.out
  clear hK K
  (try simp only [Act.put, qA, qB, qC])
  refine wpAnyH_take (i := 10) (oi := { dst := some 5, op := Op.assign (Operand.tmp 38), type := 47, pos := "value.go:108", after := #[{ on := 8, ground := Ground.data }, { on := 9, ground := Ground.chain }, { on := 0, ground := Ground.phase }, { on := 1, ground := Ground.phase }, { on := 2, ground := Ground.phase }, { on := 3, ground := Ground.phase }, { on := 4, ground := Ground.phase }, { on := 5, ground := Ground.phase }, { on := 6, ground := Ground.phase }, { on := 7, ground := Ground.phase }, { on := 8, ground := Ground.phase }, { on := 9, ground := Ground.phase }], guard := none }) (v := ?vq10_22) rfl (by kernel_rfl) (by kernel_rfl) (by kernel_rfl) (fun _ _ _ h => h) (Or.inl ⟨by rfl, ?hq10_22⟩) (by assumption) ?_
  case hq10_22 => intro w hSw; (try dsimp only at hSw); go_simp; try (with_reducible rfl)
  (try simp only [Act.put, qA, qB, qC])
  refine wpAnyH_done (by kernel_rfl) ?_ _
  obtain ⟨f0, f1, f2, ff, fl⟩ := cells3p HFX.out
  go_wp2
  refine bodyPost_ret (v := .tuple #[.agg #[.int .i64 2, .string dn, .slice none 0 0], .int .i64 UR]) (by simp [results, Tryz.results87, go_sem, f0, f1, f2]) rfl ⟨HF.out, ?_⟩
  exact ⟨.mk 2 dn h0 [], UR, 1, rfl, HUR.out, fun _ => by rw [← HR.out]; rfl, ⟨by unfold I64; omega, Row.nil _ _ _ _⟩⟩
/-- what a value of a coroutine is -/
def ofuS (s : So5) (m : Nat) (b : Bo) (d : Fn5) (uses : List Us) : Int × Ty5 := (usesR s m b (hanF s m d.params) d.params.length uses, .mk 7 d.nm h0 [])
set_option maxRecDepth 100000 in
set_option maxHeartbeats 40000000 in
theorem ofUses_start (kf : Nat → Bool) (m : Nat) (s : So5) (b : Bo) (v : Nat) (hu : Hd) (uses : List Us) (xs : Sp) (i : Nat) (d : Fn5) (tag : Int) (w : World) (hs : SoH m w s) (hsn : SoN s) (hv : ViewAt w v s b) (hb : BoH m w b) (hx : VaH w ⟨12, hu, uses, xs, (i : Int), tag⟩) (hd : s.fns[i]? = some d) :
    Calls Tryz.prog 87 #[.pointer (some ⟨v, 0, none⟩), vaV ⟨12, hu, uses, xs, (i : Int), tag⟩] w fun e w' => Below w.heap.size w w' ∧ OutP kf w' (ofuS s m b d uses) e := by
  have hdm : d ∈ s.fns := List.mem_of_getElem? hd
  have hin : i < s.fns.length := (List.getElem?_eq_some_iff.1 hd).1
  have hha := fun W (h1 : Below w.heap.size w W) => handed_any m s b v hu d.hp uses d.params W (SoH.below hs h1) hsn (hv.below h1) (BoH.below hb h1) (Row.below hx.2.1 h1 fun _ _ h => UsH.below h h1) (Row.below (hs.2.2.2.2.2 d hdm).1 h1 fun _ _ h => FdH.below h h1) (hsn.2.2 d hdm)
  obtain ⟨UR, hUR⟩ : ∃ u, usesR s m b (hanF s m d.params) d.params.length uses = u := ⟨_, rfl⟩
  obtain ⟨R, hR⟩ : ∃ R, ofuS s m b d uses = R := ⟨_, rfl⟩
  rw [hR]
  rw [hUR] at hha
  have HUR := Lib.hid (show UR = R.1 by rw [← hR, ofuS]; exact hUR.symm)
  obtain ⟨bs, os, hos, hbs, hcs⟩ := hs.2.2.2.2.1 (by omega)
  have hcd := hcs i d hd
  have hg0 := (cells7 hv).2.2.1
  obtain ⟨c1, hc1⟩ : ∃ c, s.hf.cap = c := ⟨_, rfl⟩
  obtain ⟨n1, hn1⟩ : ∃ n, s.fns.length = n := ⟨_, rfl⟩
  rw [hos, hc1, hn1] at hg0
  rw [hn1] at hin
  obtain ⟨dn, dh, df, eh, ef, dp⟩ := d
  obtain ⟨ne, hne⟩ : ∃ n, ef.length = n := ⟨_, rfl⟩
  obtain ⟨nf, hnf⟩ : ∃ n, df.length = n := ⟨_, rfl⟩
  dsimp only at hha
  have HR := Lib.hid hR
  obtain ⟨nu, hnu⟩ : ∃ n, uses.length = n := ⟨_, rfl⟩
  obtain ⟨loc, ph, path⟩ := xs
  obtain ⟨np, hnp⟩ : ∃ n, path.length = n := ⟨_, rfl⟩
  rw [hnu, hnf] at hha
  simp only [vaV, vaC, spC, List.cons_append, List.nil_append, hnu, hnp]
  have HHA := Lib.hid hha
  have g0 : w.cell? ⟨bs, os + i * 4, none⟩ = some (.string dn) := by simpa using hcd 0 _ rfl
  have g1 : w.cell? ⟨bs, os + i * 4 + 1, none⟩ = some (.slice dh.oa nf dh.cap) := by rw [← hnf]; exact hcd 1 _ rfl
  have g2 : w.cell? ⟨bs, os + i * 4 + 2, none⟩ = some (.slice eh.oa ne eh.cap) := by rw [← hne]; exact hcd 2 _ rfl
  have g3 : w.cell? ⟨bs, os + i * 4 + 3, none⟩ = some (.int .i64 dp) := hcd 3 _ rfl
  obtain ⟨W0, hW⟩ : ∃ W, W = (w.alloc (.cells #[.int .i64 12, .slice hu.oa nu hu.cap, .int .i64 loc, .slice ph.oa np ph.cap, .int .i64 (i : Int), .int .i64 tag] 37)).alloc (.cells #[.int .i64 0, .string ⟨#[]⟩, .slice none 0 0] 46) := ⟨_, rfl⟩
  obtain ⟨hb0, hx0, hx1⟩ := pal2 w (.cells #[.int .i64 12, .slice hu.oa nu hu.cap, .int .i64 loc, .slice ph.oa np ph.cap, .int .i64 (i : Int), .int .i64 tag] 37) (.cells #[.int .i64 0, .string ⟨#[]⟩, .slice none 0 0] 46)
  rw [← hW] at hb0 hx0 hx1
  obtain ⟨N, hN⟩ : ∃ N, N = w.heap.size := ⟨_, rfl⟩
  rw [← hN] at hx0 hx1
  have HB0 := Lib.hid (And.intro hb0 (And.intro hx0 hx1))
  have HN1 := Lib.hid (show w.heap.size ≤ N + 1 by omega)
  have v0 : W0.cell? ⟨N, 0, none⟩ = some (.int .i64 12) := by simp [World.cell?, hx0]
  have v1 : W0.cell? ⟨N, 1, none⟩ = some (.slice hu.oa nu hu.cap) := by simp [World.cell?, hx0]
  have v4 : W0.cell? ⟨N, 4, none⟩ = some (.int .i64 (i : Int)) := by simp [World.cell?, hx0]
  have HV1 := Lib.hid (show ∀ W, Below W0.heap.size W0 W → W.cell? ⟨N, 1, none⟩ = some (.slice hu.oa nu hu.cap) from fun W h => (h.cell (p := ⟨N, 1, none⟩) (World.block_lt_of_cell? W0 _ v1)).trans v1)
  have HS := Lib.hid (show ∀ W, Below W0.heap.size W0 W → W.cell? ⟨v, 2, none⟩ = some (.slice (some ⟨bs, os, none⟩) n1 c1) ∧ W.cell? ⟨N, 4, none⟩ = some (.int .i64 (i : Int)) ∧ W.cell? ⟨bs, os + i * 4, none⟩ = some (.string dn) ∧ W.cell? ⟨bs, os + i * 4 + 1, none⟩ = some (.slice dh.oa nf dh.cap) ∧ W.cell? ⟨bs, os + i * 4 + 2, none⟩ = some (.slice eh.oa ne eh.cap) ∧ W.cell? ⟨bs, os + i * 4 + 3, none⟩ = some (.int .i64 dp) from fun W h => by
    have hbw : Below w.heap.size w W := hb0.trans (h.mono hb0.size)
    exact ⟨(hbw.cell (World.block_lt_of_cell? w _ hg0)).trans hg0, (h.cell (World.block_lt_of_cell? W0 _ v4)).trans v4, (hbw.cell (World.block_lt_of_cell? w _ g0)).trans g0, (hbw.cell (World.block_lt_of_cell? w _ g1)).trans g1, (hbw.cell (World.block_lt_of_cell? w _ g2)).trans g2, (hbw.cell (World.block_lt_of_cell? w _ g3)).trans g3⟩)
  have ti0 : (0 : Int) ≤ i := by omega
  have ti1 : (i : Int) < n1 := by omega
  clear hne hs hsn hv hb hx hb0 hx0 hx1 hha hUR hR hnu hnp hd hdm hos hbs hcs hcd hg0 hc1 hn1 hin hnf g0 g1 g2 g3 v1 v4
  go_enter Tryz.func87, Tryz.ntmps87
  go_upto_region 1 with fail
  rw [← hW]
  clear hW
  try simp only [← hN]
  clear hN
  go_upto_region 12 with fail
  refine wp_region_held_drew (S := (fun w' => w'.cell? ⟨v, 2, none⟩ = some (.slice (some ⟨bs, os, none⟩) n1 c1) ∧ w'.cell? ⟨N, 4, none⟩ = some (.int .i64 (i : Int)) ∧ w'.cell? ⟨bs, os + i * 4, none⟩ = some (.string dn) ∧ w'.cell? ⟨bs, os + i * 4 + 1, none⟩ = some (.slice dh.oa nf dh.cap) ∧ w'.cell? ⟨bs, os + i * 4 + 2, none⟩ = some (.slice eh.oa ne eh.cap) ∧ w'.cell? ⟨bs, os + i * 4 + 3, none⟩ = some (.int .i64 dp))) (by kernel_rfl) ?_ (fun hHeld => ?_)
  · exact HS.out W0 (Below.refl _ _)
  clear v0
  refine wpAnyH_take (i := 0) (oi := { dst := some 66, op := Op.move (Operand.tmp 0), type := 85, pos := "value.go:113", after := #[], guard := none }) (v := ?vq0_23) rfl (by kernel_rfl) (by kernel_rfl) (by kernel_rfl) (fun _ _ _ h => h) (Or.inl ⟨by rfl, ?hq0_23⟩) (by assumption) ?_
  case hq0_23 => intro w hSw; (try dsimp only at hSw); go_simp; try (with_reducible rfl)
  (try simp only [Act.put, qA, qB, qC])
  refine wpAnyH_take (i := 1) (oi := { dst := some 67, op := Op.nilCheck (Operand.tmp 66), type := 0, pos := "value.go:113", after := #[{ on := 0, ground := Ground.data }], guard := none }) (v := ?vq1_24) rfl (by kernel_rfl) (by kernel_rfl) (by kernel_rfl) (fun _ _ _ h => h) (Or.inl ⟨by rfl, ?hq1_24⟩) (by assumption) ?_
  case hq1_24 => intro w hSw; (try dsimp only at hSw); go_simp; try (with_reducible rfl)
  (try simp only [Act.put, qA, qB, qC])
  refine wpAnyH_take (i := 2) (oi := { dst := some 68, op := Op.fieldAddr 87 (Operand.tmp 67) 0, type := 0, pos := "value.go:113", after := #[{ on := 1, ground := Ground.data }], guard := none }) (v := ?vq2_25) rfl (by kernel_rfl) (by kernel_rfl) (by kernel_rfl) (fun _ _ _ h => h) (Or.inl ⟨by rfl, ?hq2_25⟩) (by assumption) ?_
  case hq2_25 => intro w hSw; (try dsimp only at hSw); go_simp; try (with_reducible rfl)
  (try simp only [Act.put, qA, qB, qC])
  refine wpAnyH_take (i := 3) (oi := { dst := some 69, op := Op.fieldAddr 26 (Operand.tmp 68) 2, type := 0, pos := "value.go:113", after := #[{ on := 2, ground := Ground.data }], guard := none }) (v := ?vq3_26) rfl (by kernel_rfl) (by kernel_rfl) (by kernel_rfl) (fun _ _ _ h => h) (Or.inl ⟨by rfl, ?hq3_26⟩) (by assumption) ?_
  case hq3_26 => intro w hSw; (try dsimp only at hSw); go_simp; try (with_reducible rfl)
  (try simp only [Act.put, qA, qB, qC])
  refine wpAnyH_take (i := 4) (oi := { dst := some 70, op := Op.load 24 (Operand.tmp 69), type := 24, pos := "value.go:113", after := #[{ on := 3, ground := Ground.data }], guard := none }) (v := ?vq4_27) rfl (by kernel_rfl) (by kernel_rfl) (by kernel_rfl) (fun _ _ _ h => h) (Or.inl ⟨by rfl, ?hq4_27⟩) (by assumption) ?_
  case hq4_27 => intro w hSw; (try dsimp only at hSw); go_simp; try (with_reducible rfl)
  (try simp only [Act.put, qA, qB, qC])
  refine wpAnyH_take (i := 5) (oi := { dst := some 71, op := Op.fieldAddr 37 (Operand.tmp 3) 3, type := 0, pos := "value.go:113", after := #[], guard := none }) (v := ?vq5_28) rfl (by kernel_rfl) (by kernel_rfl) (by kernel_rfl) (fun _ _ _ h => h) (Or.inl ⟨by rfl, ?hq5_28⟩) (by assumption) ?_
  case hq5_28 => intro w hSw; (try dsimp only at hSw); go_simp; try (with_reducible rfl)
  (try simp only [Act.put, qA, qB, qC])
  refine wpAnyH_take (i := 6) (oi := { dst := some 72, op := Op.load 3 (Operand.tmp 71), type := 3, pos := "value.go:113", after := #[{ on := 5, ground := Ground.data }], guard := none }) (v := ?vq6_29) rfl (by kernel_rfl) (by kernel_rfl) (by kernel_rfl) (fun _ _ _ h => h) (Or.inl ⟨by rfl, ?hq6_29⟩) (by assumption) ?_
  case hq6_29 => intro w hSw; (try dsimp only at hSw); go_simp; try (with_reducible rfl)
  (try simp only [Act.put, qA, qB, qC])
  refine wpAnyH_take (i := 7) (oi := { dst := some 73, op := Op.indexAddr 24 (Operand.tmp 70) (Operand.tmp 72), type := 0, pos := "value.go:113", after := #[{ on := 4, ground := Ground.data }, { on := 6, ground := Ground.data }], guard := none }) (v := ?vq7_30) rfl (by kernel_rfl) (by kernel_rfl) (by kernel_rfl) (fun _ _ _ h => h) (Or.inl ⟨by rfl, ?hq7_30⟩) (by assumption) ?_
  case hq7_30 => intro w hSw; (try dsimp only at hSw); go_simp; try (with_reducible rfl)
  (try simp only [Act.put, qA, qB, qC])
  refine wpAnyH_take (i := 8) (oi := { dst := some 74, op := Op.load 79 (Operand.tmp 73), type := 79, pos := "value.go:113", after := #[{ on := 7, ground := Ground.data }], guard := none }) (v := ?vq8_31) rfl (by kernel_rfl) (by kernel_rfl) (by kernel_rfl) (fun _ _ _ h => h) (Or.inl ⟨by rfl, ?hq8_31⟩) (by assumption) ?_
  case hq8_31 => intro w hSw; (try dsimp only at hSw); go_simp; try (with_reducible rfl)
  (try simp only [Act.put, qA, qB, qC])
  refine wpAnyH_ready (rs := [9]) (by kernel_rfl) (by simp) ?_
  refine AllReadyH.cons (o := { dst := some 8, op := Op.alloc 79, type := 0, pos := "value.go:113", after := #[], guard := none }) rfl (fun K hK => ?_) AllReadyH.nil
  go_simp
  obtain ⟨M, hM⟩ : ∃ M, M = W0.heap.size := ⟨_, rfl⟩
  obtain ⟨W1, hW1⟩ : ∃ W, W = (W0.alloc (.cells #[.string ⟨#[]⟩, .slice none 0 0, .slice none 0 0, .int .i64 0] 79)).drew := ⟨_, rfl⟩
  rw [← hW1]
  have HM1 := Lib.hid (show W1.heap[M]? = some (.cells #[.string ⟨#[]⟩, .slice none 0 0, .slice none 0 0, .int .i64 0] 79) ∧ W0.heap.size ≤ M ∧ Below W0.heap.size W0 W1 from ⟨by rw [hW1, hM]; exact heap_alloc_new W0 _, Nat.le_of_eq hM.symm, by rw [hW1]; exact (alloc_below W0 (.cells #[.string ⟨#[]⟩, .slice none 0 0, .slice none 0 0, .int .i64 0] 79)).trans ⟨rfl, rfl, rfl, Nat.le_refl _, fun _ _ => rfl⟩⟩)
  try simp only [← hM]
  clear hM hW1
  refine hK.out _ _ ?_ (fun hHeld => ?_)
  · exact HS.out W1 HM1.out.2.2
  clear hK K
  (try simp only [Act.put, qA, qB, qC])
  refine wpAnyH_ready (rs := [10]) (by kernel_rfl) (by simp) ?_
  refine AllReadyH.cons (o := { dst := none, op := Op.store 79 (Operand.tmp 8) (Operand.tmp 74), type := 0, pos := "value.go:113", after := #[{ on := 9, ground := Ground.data }, { on := 8, ground := Ground.data }, { on := 0, ground := Ground.phase }, { on := 1, ground := Ground.phase }, { on := 2, ground := Ground.phase }, { on := 3, ground := Ground.phase }, { on := 4, ground := Ground.phase }, { on := 5, ground := Ground.phase }, { on := 6, ground := Ground.phase }, { on := 7, ground := Ground.phase }, { on := 8, ground := Ground.phase }, { on := 9, ground := Ground.phase }], guard := none }) rfl (fun K hK => ?_) AllReadyH.nil
  try rw [if_pos (by rfl)]
  refine wp_store_box 79 (.tmp 8) (.tmp 74) rfl M 0 rfl (.agg #[.string dn, .slice dh.oa nf dh.cap, .slice eh.oa ne eh.cap, .int .i64 dp]) rfl [.string dn, .slice dh.oa nf dh.cap, .slice eh.oa ne eh.cap, .int .i64 dp] rfl [.string ⟨#[]⟩, .slice none 0 0, .slice none 0 0, .int .i64 0] 79 HM1.out.1 (Nat.le_refl _) (show (Tryz.prog.info? 79).map (·.size) = some 4 by kernel_rfl) ?cx1 M (Nat.le_refl _) W1 (Below.refl _ _) ?_
  try case cx1 => first | exact ⟨rfl, rfl, rfl, rfl⟩ | (intro v hv; simp at hv; rcases hv with rfl | rfl | rfl | rfl <;> rfl)
  intro W2 hb hbx hoth
  have HK2 := Lib.hid (show Below W0.heap.size W0 W2 from HM1.out.2.2.trans (hb.mono HM1.out.2.1))
  have HM2 := Lib.hid (And.intro hbx HM1.out.2.1)
  clear hb hbx hoth HM1
  refine hK.out _ _ ?_ (fun hHeld => ?_)
  · exact HS.out W2 HK2.out
  clear hK K
  (try simp only [Act.put, qA, qB, qC])
  refine wpAnyH_done (by kernel_rfl) ?_ _
  have HV2 := Lib.hid (show ∀ W, Below W2.heap.size W2 W → W.cell? ⟨N, 1, none⟩ = some (.slice hu.oa nu hu.cap) ∧ W.cell? ⟨M, 0, none⟩ = some (.string dn) ∧ W.cell? ⟨M, 1, none⟩ = some (.slice dh.oa nf dh.cap) from fun W h => ⟨HV1.out W (HK2.out.trans (h.mono HK2.out.size)), (cells4p ((h.block M (blk_lt HM2.out.1)).trans HM2.out.1)).1, (cells4p ((h.block M (blk_lt HM2.out.1)).trans HM2.out.1)).2.1⟩)
  go_upto_region 13 with fail
  refine wp_region_held_drew (S := (fun w' => w'.cell? ⟨N, 1, none⟩ = some (.slice hu.oa nu hu.cap) ∧ w'.cell? ⟨M, 0, none⟩ = some (.string dn) ∧ w'.cell? ⟨M, 1, none⟩ = some (.slice dh.oa nf dh.cap))) (by kernel_rfl) ?_ (fun hHeld => ?_)
  · exact HV2.out W2 (Below.refl _ _)
  refine wpAnyH_take (i := 0) (oi := { dst := some 75, op := Op.fieldAddr 79 (Operand.tmp 8) 0, type := 0, pos := "value.go:114", after := #[], guard := none }) (v := ?vq0_32) rfl (by kernel_rfl) (by kernel_rfl) (by kernel_rfl) (fun _ _ _ h => h) (Or.inl ⟨by rfl, ?hq0_32⟩) (by assumption) ?_
  case hq0_32 => intro w hSw; (try dsimp only at hSw); go_simp; try (with_reducible rfl)
  (try simp only [Act.put, qA, qB, qC])
  refine wpAnyH_take (i := 1) (oi := { dst := some 76, op := Op.load 9 (Operand.tmp 75), type := 9, pos := "value.go:114", after := #[{ on := 0, ground := Ground.data }], guard := none }) (v := ?vq1_33) rfl (by kernel_rfl) (by kernel_rfl) (by kernel_rfl) (fun _ _ _ h => h) (Or.inl ⟨by rfl, ?hq1_33⟩) (by assumption) ?_
  case hq1_33 => intro w hSw; (try dsimp only at hSw); go_simp; try (with_reducible rfl)
  (try simp only [Act.put, qA, qB, qC])
  refine wpAnyH_take (i := 2) (oi := { dst := some 77, op := Op.build 46 #[(0, Operand.const (Value.int IntKind.i64 7)), (1, Operand.tmp 76)], type := 46, pos := "value.go:114", after := #[{ on := 1, ground := Ground.data }], guard := none }) (v := ?vq2_34) rfl (by kernel_rfl) (by kernel_rfl) (by kernel_rfl) (fun _ _ _ h => h) (Or.inl ⟨by rfl, ?hq2_34⟩) (by assumption) ?_
  case hq2_34 => intro w hSw; (try dsimp only at hSw); go_simp; try (with_reducible rfl)
  (try simp only [Act.put, qA, qB, qC])
  refine wpAnyH_take (i := 3) (oi := { dst := some 78, op := Op.move (Operand.tmp 0), type := 85, pos := "value.go:114", after := #[], guard := none }) (v := ?vq3_35) rfl (by kernel_rfl) (by kernel_rfl) (by kernel_rfl) (fun _ _ _ h => h) (Or.inl ⟨by rfl, ?hq3_35⟩) (by assumption) ?_
  case hq3_35 => intro w hSw; (try dsimp only at hSw); go_simp; try (with_reducible rfl)
  (try simp only [Act.put, qA, qB, qC])
  refine wpAnyH_take (i := 4) (oi := { dst := some 79, op := Op.fieldAddr 37 (Operand.tmp 3) 1, type := 0, pos := "value.go:114", after := #[], guard := none }) (v := ?vq4_36) rfl (by kernel_rfl) (by kernel_rfl) (by kernel_rfl) (fun _ _ _ h => h) (Or.inl ⟨by rfl, ?hq4_36⟩) (by assumption) ?_
  case hq4_36 => intro w hSw; (try dsimp only at hSw); go_simp; try (with_reducible rfl)
  (try simp only [Act.put, qA, qB, qC])
  refine wpAnyH_take (i := 5) (oi := { dst := some 80, op := Op.load 35 (Operand.tmp 79), type := 35, pos := "value.go:114", after := #[{ on := 4, ground := Ground.data }], guard := none }) (v := ?vq5_37) rfl (by kernel_rfl) (by kernel_rfl) (by kernel_rfl) (fun _ _ _ h => h) (Or.inl ⟨by rfl, ?hq5_37⟩) (by assumption) ?_
  case hq5_37 => intro w hSw; (try dsimp only at hSw); go_simp; try (with_reducible rfl)
  (try simp only [Act.put, qA, qB, qC])
  refine wpAnyH_take (i := 6) (oi := { dst := some 81, op := Op.fieldAddr 79 (Operand.tmp 8) 1, type := 0, pos := "value.go:114", after := #[], guard := none }) (v := ?vq6_38) rfl (by kernel_rfl) (by kernel_rfl) (by kernel_rfl) (fun _ _ _ h => h) (Or.inl ⟨by rfl, ?hq6_38⟩) (by assumption) ?_
  case hq6_38 => intro w hSw; (try dsimp only at hSw); go_simp; try (with_reducible rfl)
  (try simp only [Act.put, qA, qB, qC])
  refine wpAnyH_take (i := 7) (oi := { dst := some 82, op := Op.load 69 (Operand.tmp 81), type := 69, pos := "value.go:114", after := #[{ on := 6, ground := Ground.data }], guard := none }) (v := ?vq7_39) rfl (by kernel_rfl) (by kernel_rfl) (by kernel_rfl) (fun _ _ _ h => h) (Or.inl ⟨by rfl, ?hq7_39⟩) (by assumption) ?_
  case hq7_39 => intro w hSw; (try dsimp only at hSw); go_simp; try (with_reducible rfl)
  (try simp only [Act.put, qA, qB, qC])
  refine wpAnyH_ready (rs := [8]) (by kernel_rfl) (by simp) ?_
  refine AllReadyH.cons (o := { dst := some 83, op := Op.call { callee := Callee.value (Operand.func 115), args := #[Operand.tmp 78, Operand.tmp 80, Operand.tmp 82], argTypes := #[85, 35, 69] }, type := 47, pos := "value.go:114", after := #[{ on := 3, ground := Ground.data }, { on := 5, ground := Ground.data }, { on := 7, ground := Ground.data }], guard := none }) rfl (fun K hK => ?_) AllReadyH.nil
  go_simp
  have HD := Lib.hid (show Below W2.heap.size W2 W2.drew from ⟨rfl, rfl, rfl, Nat.le_refl _, fun _ _ => rfl⟩)
  refine (HHA.out W2.drew (HB0.out.1.trans ((HK2.out.trans (HD.out.mono HK2.out.size)).mono HB0.out.1.size))).mono ?_
  rintro e W3 ⟨rfl, hb3⟩
  have HK3 := Lib.hid (HD.out.trans hb3)
  clear hb3
  refine hK.out _ _ ?_ (fun hHeld => ?_)
  · exact HV2.out W3 HK3.out
  clear hK K
  (try simp only [Act.put, qA, qB, qC])
  refine wpAnyH_ready (rs := [9]) (by kernel_rfl) (by simp) ?_
  refine AllReadyH.cons (o := { dst := none, op := Op.store 46 (Operand.tmp 4) (Operand.tmp 77), type := 0, pos := "value.go:114", after := #[{ on := 2, ground := Ground.data }, { on := 8, ground := Ground.chain }, { on := 0, ground := Ground.phase }, { on := 1, ground := Ground.phase }, { on := 2, ground := Ground.phase }, { on := 3, ground := Ground.textOnly Departure.lateStores }, { on := 4, ground := Ground.textOnly Departure.lateStores }, { on := 5, ground := Ground.textOnly Departure.lateStores }, { on := 6, ground := Ground.textOnly Departure.lateStores }, { on := 7, ground := Ground.textOnly Departure.lateStores }, { on := 8, ground := Ground.textOnly Departure.lateStoresUnsure }], guard := none }) rfl (fun K hK => ?_) AllReadyH.nil
  try rw [if_pos (by rfl)]
  have HK4 := Lib.hid (HK2.out.trans (HK3.out.mono HK2.out.size))
  refine wp_store_box 46 (.tmp 4) (.tmp 77) rfl (N + 1) 0 rfl (.agg #[.int .i64 7, .string dn, .slice none 0 0]) rfl [.int .i64 7, .string dn, .slice none 0 0] rfl [.int .i64 0, .string ⟨#[]⟩, .slice none 0 0] 46 ((HK4.out.block (N + 1) (blk_lt HB0.out.2.2)).trans HB0.out.2.2) (Nat.le_refl _) (show (Tryz.prog.info? 46).map (·.size) = some 3 by kernel_rfl) ?cb9 (N + 1) (Nat.le_refl _) W3 (Below.refl _ _) ?_
  try case cb9 => first | exact ⟨rfl, rfl, rfl⟩ | (intro v hv; simp at hv; rcases hv with rfl | rfl | rfl <;> rfl)
  intro WF hb hbx hoth
  have HF := Lib.hid (show Below w.heap.size w WF from (HB0.out.1.trans (HK4.out.mono HB0.out.1.size)).trans (hb.mono HN1.out))
  have HFX := Lib.hid hbx
  have hnm : M ≠ N + 1 := fun e => by have h1 := HM2.out.2; have h2 := blk_lt HB0.out.2.2; omega
  have HVF := Lib.hid (And.intro ((World.cell?_of_block (a := ⟨N, 1, none⟩) (hoth N (by omega))).trans (HV2.out W3 HK3.out).1) (And.intro ((World.cell?_of_block (a := ⟨M, 0, none⟩) (hoth M hnm)).trans (HV2.out W3 HK3.out).2.1) ((World.cell?_of_block (a := ⟨M, 1, none⟩) (hoth M hnm)).trans (HV2.out W3 HK3.out).2.2)))
  clear hb hbx hoth hnm
  refine hK.out _ _ ?_ (fun hHeld => ?_)
  · exact HVF.out
  clear hK K
  (try simp only [Act.put, qA, qB, qC])
  refine wpAnyH_take (i := 10) (oi := { dst := some 5, op := Op.assign (Operand.tmp 83), type := 47, pos := "value.go:114", after := #[{ on := 8, ground := Ground.data }, { on := 9, ground := Ground.chain }, { on := 0, ground := Ground.phase }, { on := 1, ground := Ground.phase }, { on := 2, ground := Ground.phase }, { on := 3, ground := Ground.phase }, { on := 4, ground := Ground.phase }, { on := 5, ground := Ground.phase }, { on := 6, ground := Ground.phase }, { on := 7, ground := Ground.phase }, { on := 8, ground := Ground.phase }, { on := 9, ground := Ground.phase }], guard := none }) (v := ?vq10_40) rfl (by kernel_rfl) (by kernel_rfl) (by kernel_rfl) (fun _ _ _ h => h) (Or.inl ⟨by rfl, ?hq10_40⟩) (by assumption) ?_
  case hq10_40 => intro w hSw; (try dsimp only at hSw); go_simp; try (with_reducible rfl)
  (try simp only [Act.put, qA, qB, qC])
  refine wpAnyH_done (by kernel_rfl) ?_ _
  obtain ⟨f0, f1, f2, ff, fl⟩ := cells3p HFX.out
  go_wp2
  refine bodyPost_ret (v := .tuple #[.agg #[.int .i64 7, .string dn, .slice none 0 0], .int .i64 UR]) (by simp [results, Tryz.results87, go_sem, f0, f1, f2]) rfl ⟨HF.out, ?_⟩
  exact ⟨.mk 7 dn h0 [], UR, 1, rfl, HUR.out, fun _ => by rw [← HR.out]; rfl, ⟨by unfold I64; omega, Row.nil _ _ _ _⟩⟩
/-- what a value of an enum is -/
def ofuV (s : So5) (m : Nat) (b : Bo) (d : En5) (x : Fd5) (uses : List Us) : Int × Ty5 := (usesR s m b (hanF s m (heldL x)) (heldL x).length uses, .mk 3 d.nm h0 [])
set_option maxRecDepth 100000 in
set_option maxHeartbeats 40000000 in
theorem ofUses_variant (kf : Nat → Bool) (m : Nat) (s : So5) (b : Bo) (v : Nat) (hu : Hd) (uses : List Us) (xs : Sp) (i : Nat) (d : En5) (j : Nat) (x : Fd5) (w : World) (hs : SoH m w s) (hsn : SoN s) (hv : ViewAt w v s b) (hb : BoH m w b) (hx : VaH w ⟨11, hu, uses, xs, (i : Int), (j : Int)⟩) (hd : s.enums[i]? = some d) (hdj : d.vars[j]? = some x) :
    Calls Tryz.prog 87 #[.pointer (some ⟨v, 0, none⟩), vaV ⟨11, hu, uses, xs, (i : Int), (j : Int)⟩] w fun e w' => Below w.heap.size w w' ∧ OutP kf w' (ofuV s m b d x uses) e := by
  have hdm : d ∈ s.enums := List.mem_of_getElem? hd
  have hin : i < s.enums.length := (List.getElem?_eq_some_iff.1 hd).1
  have hxm : x ∈ d.vars := List.mem_of_getElem? hdj
  have hjn : j < d.vars.length := (List.getElem?_eq_some_iff.1 hdj).1
  have hxN : ∀ y ∈ heldL x, tyN y.ty ≤ 1000000 := fun y hy => by
    unfold heldL at hy
    split at hy
    · cases hy
    · obtain rfl := List.mem_singleton.1 hy
      exact hsn.2.1 d hdm y hxm
  have hha := fun W (hh : Hd) (h1 : Below w.heap.size w W) hr => handed_any m s b v hu hh uses (heldL x) W (SoH.below hs h1) hsn (hv.below h1) (BoH.below hb h1) (Row.below hx.2.1 h1 fun _ _ h => UsH.below h h1) hr hxN
  have hdr := hs.2.1.2.2.2 d hdm
  have hhe := fun W (h1 : Below w.heap.size w W) => mheld_any m x W (FdH.below (hdr.2.2.2 x hxm) h1)
  obtain ⟨bv, ov, hov, hbv, hcv⟩ := hdr.2.2.1 (by omega)
  have hcx := hcv j x hdj
  obtain ⟨UR, hUR⟩ : ∃ u, usesR s m b (hanF s m (heldL x)) (heldL x).length uses = u := ⟨_, rfl⟩
  obtain ⟨R, hR⟩ : ∃ R, ofuV s m b d x uses = R := ⟨_, rfl⟩
  rw [hR]
  rw [hUR] at hha
  have HUR := Lib.hid (show UR = R.1 by rw [← hR, ofuV]; exact hUR.symm)
  obtain ⟨bs, os, hos, hbs, hcs⟩ := hs.2.1.2.2.1 (by omega)
  have hcd := hcs i d hd
  have hg0 := (cells7 hv).2.1
  obtain ⟨c1, hc1⟩ : ∃ c, s.he.cap = c := ⟨_, rfl⟩
  obtain ⟨n1, hn1⟩ : ∃ n, s.enums.length = n := ⟨_, rfl⟩
  rw [hos, hc1, hn1] at hg0
  rw [hn1] at hin
  obtain ⟨dn, dh, df, dp⟩ := d
  obtain ⟨nf, hnf⟩ : ∃ n, df.length = n := ⟨_, rfl⟩
  dsimp only at hov hjn
  obtain ⟨c2, hc2⟩ : ∃ c, dh.cap = c := ⟨_, rfl⟩
  obtain ⟨xn, ⟨xk, xt, xh, xl⟩⟩ := x
  obtain ⟨nx, hnx⟩ : ∃ n, xl.length = n := ⟨_, rfl⟩
  obtain ⟨LL, hLL⟩ : ∃ l, heldL ⟨xn, .mk xk xt xh xl⟩ = l := ⟨_, rfl⟩
  simp only [hLL] at hha hhe
  simp only [fdV, fdC, tyC, hnx] at hhe
  have HR := Lib.hid hR
  obtain ⟨nu, hnu⟩ : ∃ n, uses.length = n := ⟨_, rfl⟩
  obtain ⟨loc, ph, path⟩ := xs
  obtain ⟨np, hnp⟩ : ∃ n, path.length = n := ⟨_, rfl⟩
  simp only [hnu] at hha
  rw [hnf] at hjn
  simp only [vaV, vaC, spC, List.cons_append, List.nil_append, hnu, hnp]
  have HHA := Lib.hid hha
  have HHE := Lib.hid hhe
  have HBV := Lib.hid hbv
  have g0 : w.cell? ⟨bs, os + i * 3, none⟩ = some (.string dn) := by simpa using hcd 0 _ rfl
  have g1 : w.cell? ⟨bs, os + i * 3 + 1, none⟩ = some (.slice (some ⟨bv, ov, none⟩) nf c2) := by rw [← hnf, ← hc2, ← hov]; exact hcd 1 _ rfl
  have g2 : w.cell? ⟨bs, os + i * 3 + 2, none⟩ = some (.int .i64 dp) := hcd 2 _ rfl
  have x0 : w.cell? ⟨bv, ov + j * 4, none⟩ = some (.string xn) := by simpa using hcx 0 _ rfl
  have x1 : w.cell? ⟨bv, ov + j * 4 + 1, none⟩ = some (.int .i64 xk) := hcx 1 _ rfl
  have x2 : w.cell? ⟨bv, ov + j * 4 + 2, none⟩ = some (.string xt) := hcx 2 _ rfl
  have x3 : w.cell? ⟨bv, ov + j * 4 + 3, none⟩ = some (.slice xh.oa nx xh.cap) := by rw [← hnx]; exact hcx 3 _ rfl
  have HXC := Lib.hid (show ∀ W, Below w.heap.size w W → W.cell? ⟨bv, ov + j * 4, none⟩ = some (.string xn) ∧ W.cell? ⟨bv, ov + j * 4 + 1, none⟩ = some (.int .i64 xk) ∧ W.cell? ⟨bv, ov + j * 4 + 2, none⟩ = some (.string xt) ∧ W.cell? ⟨bv, ov + j * 4 + 3, none⟩ = some (.slice xh.oa nx xh.cap) from fun W h => ⟨(h.cell (World.block_lt_of_cell? w _ x0)).trans x0, (h.cell (World.block_lt_of_cell? w _ x1)).trans x1, (h.cell (World.block_lt_of_cell? w _ x2)).trans x2, (h.cell (World.block_lt_of_cell? w _ x3)).trans x3⟩)
  obtain ⟨W0, hW⟩ : ∃ W, W = (w.alloc (.cells #[.int .i64 11, .slice hu.oa nu hu.cap, .int .i64 loc, .slice ph.oa np ph.cap, .int .i64 (i : Int), .int .i64 (j : Int)] 37)).alloc (.cells #[.int .i64 0, .string ⟨#[]⟩, .slice none 0 0] 46) := ⟨_, rfl⟩
  obtain ⟨hb0, hx0, hx1⟩ := pal2 w (.cells #[.int .i64 11, .slice hu.oa nu hu.cap, .int .i64 loc, .slice ph.oa np ph.cap, .int .i64 (i : Int), .int .i64 (j : Int)] 37) (.cells #[.int .i64 0, .string ⟨#[]⟩, .slice none 0 0] 46)
  rw [← hW] at hb0 hx0 hx1
  obtain ⟨N, hN⟩ : ∃ N, N = w.heap.size := ⟨_, rfl⟩
  rw [← hN] at hx0 hx1
  have HB0 := Lib.hid (And.intro hb0 (And.intro hx0 hx1))
  have HN1 := Lib.hid (show w.heap.size ≤ N + 1 by omega)
  have v0 : W0.cell? ⟨N, 0, none⟩ = some (.int .i64 11) := by simp [World.cell?, hx0]
  have v1 : W0.cell? ⟨N, 1, none⟩ = some (.slice hu.oa nu hu.cap) := by simp [World.cell?, hx0]
  have v4 : W0.cell? ⟨N, 4, none⟩ = some (.int .i64 (i : Int)) := by simp [World.cell?, hx0]
  have HV1 := Lib.hid (show ∀ W, Below W0.heap.size W0 W → W.cell? ⟨N, 1, none⟩ = some (.slice hu.oa nu hu.cap) from fun W h => (h.cell (p := ⟨N, 1, none⟩) (World.block_lt_of_cell? W0 _ v1)).trans v1)
  have v5 : W0.cell? ⟨N, 5, none⟩ = some (.int .i64 (j : Int)) := by simp [World.cell?, hx0]
  have HV5 := Lib.hid (show ∀ W, Below W0.heap.size W0 W → W.cell? ⟨N, 5, none⟩ = some (.int .i64 (j : Int)) from fun W h => (h.cell (p := ⟨N, 5, none⟩) (World.block_lt_of_cell? W0 _ v5)).trans v5)
  have HN2 := Lib.hid hN
  have HS := Lib.hid (show ∀ W, Below W0.heap.size W0 W → W.cell? ⟨v, 1, none⟩ = some (.slice (some ⟨bs, os, none⟩) n1 c1) ∧ W.cell? ⟨N, 4, none⟩ = some (.int .i64 (i : Int)) ∧ W.cell? ⟨bs, os + i * 3, none⟩ = some (.string dn) ∧ W.cell? ⟨bs, os + i * 3 + 1, none⟩ = some (.slice (some ⟨bv, ov, none⟩) nf c2) ∧ W.cell? ⟨bs, os + i * 3 + 2, none⟩ = some (.int .i64 dp) from fun W h => by
    have hbw : Below w.heap.size w W := hb0.trans (h.mono hb0.size)
    exact ⟨(hbw.cell (World.block_lt_of_cell? w _ hg0)).trans hg0, (h.cell (World.block_lt_of_cell? W0 _ v4)).trans v4, (hbw.cell (World.block_lt_of_cell? w _ g0)).trans g0, (hbw.cell (World.block_lt_of_cell? w _ g1)).trans g1, (hbw.cell (World.block_lt_of_cell? w _ g2)).trans g2⟩)
  have ti0 : (0 : Int) ≤ i := by omega
  have ti1 : (i : Int) < n1 := by omega
  have tj0 : (0 : Int) ≤ j := by omega
  have tj1 : (j : Int) < nf := by omega
  clear hdj hxm hjn hxN hdr hov hbv hcv hcx hc2 hnx hLL hhe x0 x1 x2 x3 v5 hs hsn hv hb hx hb0 hx0 hx1 hha hUR hR hnu hnp hd hdm hos hbs hcs hcd hg0 hc1 hn1 hin hnf g0 g1 g2 v1 v4
  go_enter Tryz.func87, Tryz.ntmps87
  go_upto_region 1 with fail
  rw [← hW]
  clear hW
  try simp only [← hN]
  clear hN
  go_upto_region 9 with fail
  refine wp_region_held_drew (S := (fun w' => w'.cell? ⟨v, 1, none⟩ = some (.slice (some ⟨bs, os, none⟩) n1 c1) ∧ w'.cell? ⟨N, 4, none⟩ = some (.int .i64 (i : Int)) ∧ w'.cell? ⟨bs, os + i * 3, none⟩ = some (.string dn) ∧ w'.cell? ⟨bs, os + i * 3 + 1, none⟩ = some (.slice (some ⟨bv, ov, none⟩) nf c2) ∧ w'.cell? ⟨bs, os + i * 3 + 2, none⟩ = some (.int .i64 dp))) (by kernel_rfl) ?_ (fun hHeld => ?_)
  · exact HS.out W0 (Below.refl _ _)
  clear v0
  refine wpAnyH_take (i := 0) (oi := { dst := some 41, op := Op.move (Operand.tmp 0), type := 85, pos := "value.go:110", after := #[], guard := none }) (v := ?vq0_41) rfl (by kernel_rfl) (by kernel_rfl) (by kernel_rfl) (fun _ _ _ h => h) (Or.inl ⟨by rfl, ?hq0_41⟩) (by assumption) ?_
  case hq0_41 => intro w hSw; (try dsimp only at hSw); go_simp; try (with_reducible rfl)
  (try simp only [Act.put, qA, qB, qC])
  refine wpAnyH_take (i := 1) (oi := { dst := some 42, op := Op.nilCheck (Operand.tmp 41), type := 0, pos := "value.go:110", after := #[{ on := 0, ground := Ground.data }], guard := none }) (v := ?vq1_42) rfl (by kernel_rfl) (by kernel_rfl) (by kernel_rfl) (fun _ _ _ h => h) (Or.inl ⟨by rfl, ?hq1_42⟩) (by assumption) ?_
  case hq1_42 => intro w hSw; (try dsimp only at hSw); go_simp; try (with_reducible rfl)
  (try simp only [Act.put, qA, qB, qC])
  refine wpAnyH_take (i := 2) (oi := { dst := some 43, op := Op.fieldAddr 87 (Operand.tmp 42) 0, type := 0, pos := "value.go:110", after := #[{ on := 1, ground := Ground.data }], guard := none }) (v := ?vq2_43) rfl (by kernel_rfl) (by kernel_rfl) (by kernel_rfl) (fun _ _ _ h => h) (Or.inl ⟨by rfl, ?hq2_43⟩) (by assumption) ?_
  case hq2_43 => intro w hSw; (try dsimp only at hSw); go_simp; try (with_reducible rfl)
  (try simp only [Act.put, qA, qB, qC])
  refine wpAnyH_take (i := 3) (oi := { dst := some 44, op := Op.fieldAddr 26 (Operand.tmp 43) 1, type := 0, pos := "value.go:110", after := #[{ on := 2, ground := Ground.data }], guard := none }) (v := ?vq3_44) rfl (by kernel_rfl) (by kernel_rfl) (by kernel_rfl) (fun _ _ _ h => h) (Or.inl ⟨by rfl, ?hq3_44⟩) (by assumption) ?_
  case hq3_44 => intro w hSw; (try dsimp only at hSw); go_simp; try (with_reducible rfl)
  (try simp only [Act.put, qA, qB, qC])
  refine wpAnyH_take (i := 4) (oi := { dst := some 45, op := Op.load 23 (Operand.tmp 44), type := 23, pos := "value.go:110", after := #[{ on := 3, ground := Ground.data }], guard := none }) (v := ?vq4_45) rfl (by kernel_rfl) (by kernel_rfl) (by kernel_rfl) (fun _ _ _ h => h) (Or.inl ⟨by rfl, ?hq4_45⟩) (by assumption) ?_
  case hq4_45 => intro w hSw; (try dsimp only at hSw); go_simp; try (with_reducible rfl)
  (try simp only [Act.put, qA, qB, qC])
  refine wpAnyH_take (i := 5) (oi := { dst := some 46, op := Op.fieldAddr 37 (Operand.tmp 3) 3, type := 0, pos := "value.go:110", after := #[], guard := none }) (v := ?vq5_46) rfl (by kernel_rfl) (by kernel_rfl) (by kernel_rfl) (fun _ _ _ h => h) (Or.inl ⟨by rfl, ?hq5_46⟩) (by assumption) ?_
  case hq5_46 => intro w hSw; (try dsimp only at hSw); go_simp; try (with_reducible rfl)
  (try simp only [Act.put, qA, qB, qC])
  refine wpAnyH_take (i := 6) (oi := { dst := some 47, op := Op.load 3 (Operand.tmp 46), type := 3, pos := "value.go:110", after := #[{ on := 5, ground := Ground.data }], guard := none }) (v := ?vq6_47) rfl (by kernel_rfl) (by kernel_rfl) (by kernel_rfl) (fun _ _ _ h => h) (Or.inl ⟨by rfl, ?hq6_47⟩) (by assumption) ?_
  case hq6_47 => intro w hSw; (try dsimp only at hSw); go_simp; try (with_reducible rfl)
  (try simp only [Act.put, qA, qB, qC])
  refine wpAnyH_take (i := 7) (oi := { dst := some 48, op := Op.indexAddr 23 (Operand.tmp 45) (Operand.tmp 47), type := 0, pos := "value.go:110", after := #[{ on := 4, ground := Ground.data }, { on := 6, ground := Ground.data }], guard := none }) (v := ?vq7_48) rfl (by kernel_rfl) (by kernel_rfl) (by kernel_rfl) (fun _ _ _ h => h) (Or.inl ⟨by rfl, ?hq7_48⟩) (by assumption) ?_
  case hq7_48 => intro w hSw; (try dsimp only at hSw); go_simp; try (with_reducible rfl)
  (try simp only [Act.put, qA, qB, qC])
  refine wpAnyH_take (i := 8) (oi := { dst := some 49, op := Op.load 74 (Operand.tmp 48), type := 74, pos := "value.go:110", after := #[{ on := 7, ground := Ground.data }], guard := none }) (v := ?vq8_49) rfl (by kernel_rfl) (by kernel_rfl) (by kernel_rfl) (fun _ _ _ h => h) (Or.inl ⟨by rfl, ?hq8_49⟩) (by assumption) ?_
  case hq8_49 => intro w hSw; (try dsimp only at hSw); go_simp; try (with_reducible rfl)
  (try simp only [Act.put, qA, qB, qC])
  refine wpAnyH_ready (rs := [9]) (by kernel_rfl) (by simp) ?_
  refine AllReadyH.cons (o := { dst := some 7, op := Op.alloc 74, type := 0, pos := "value.go:110", after := #[], guard := none }) rfl (fun K hK => ?_) AllReadyH.nil
  go_simp
  obtain ⟨M, hM⟩ : ∃ M, M = W0.heap.size := ⟨_, rfl⟩
  obtain ⟨W1, hW1⟩ : ∃ W, W = (W0.alloc (.cells #[.string ⟨#[]⟩, .slice none 0 0, .int .i64 0] 74)).drew := ⟨_, rfl⟩
  rw [← hW1]
  have HM1 := Lib.hid (show W1.heap[M]? = some (.cells #[.string ⟨#[]⟩, .slice none 0 0, .int .i64 0] 74) ∧ W0.heap.size ≤ M ∧ Below W0.heap.size W0 W1 from ⟨by rw [hW1, hM]; exact heap_alloc_new W0 _, Nat.le_of_eq hM.symm, by rw [hW1]; exact (alloc_below W0 (.cells #[.string ⟨#[]⟩, .slice none 0 0, .int .i64 0] 74)).trans ⟨rfl, rfl, rfl, Nat.le_refl _, fun _ _ => rfl⟩⟩)
  try simp only [← hM]
  clear hM hW1
  refine hK.out _ _ ?_ (fun hHeld => ?_)
  · exact HS.out W1 HM1.out.2.2
  clear hK K
  (try simp only [Act.put, qA, qB, qC])
  refine wpAnyH_ready (rs := [10]) (by kernel_rfl) (by simp) ?_
  refine AllReadyH.cons (o := { dst := none, op := Op.store 74 (Operand.tmp 7) (Operand.tmp 49), type := 0, pos := "value.go:110", after := #[{ on := 9, ground := Ground.data }, { on := 8, ground := Ground.data }, { on := 0, ground := Ground.phase }, { on := 1, ground := Ground.phase }, { on := 2, ground := Ground.phase }, { on := 3, ground := Ground.phase }, { on := 4, ground := Ground.phase }, { on := 5, ground := Ground.phase }, { on := 6, ground := Ground.phase }, { on := 7, ground := Ground.phase }, { on := 8, ground := Ground.phase }, { on := 9, ground := Ground.phase }], guard := none }) rfl (fun K hK => ?_) AllReadyH.nil
  try rw [if_pos (by rfl)]
  refine wp_store_box 74 (.tmp 7) (.tmp 49) rfl M 0 rfl (.agg #[.string dn, .slice (some ⟨bv, ov, none⟩) nf c2, .int .i64 dp]) rfl [.string dn, .slice (some ⟨bv, ov, none⟩) nf c2, .int .i64 dp] rfl [.string ⟨#[]⟩, .slice none 0 0, .int .i64 0] 74 HM1.out.1 (Nat.le_refl _) (show (Tryz.prog.info? 74).map (·.size) = some 3 by kernel_rfl) ?cx1 M (Nat.le_refl _) W1 (Below.refl _ _) ?_
  try case cx1 => first | exact ⟨rfl, rfl, rfl⟩ | (intro v hv; simp at hv; rcases hv with rfl | rfl | rfl <;> rfl)
  intro W2 hb hbx hoth
  have HK2 := Lib.hid (show Below W0.heap.size W0 W2 from HM1.out.2.2.trans (hb.mono HM1.out.2.1))
  have HM2 := Lib.hid (And.intro hbx HM1.out.2.1)
  clear hb hbx hoth HM1
  refine hK.out _ _ ?_ (fun hHeld => ?_)
  · exact HS.out W2 HK2.out
  clear hK K
  (try simp only [Act.put, qA, qB, qC])
  refine wpAnyH_done (by kernel_rfl) ?_ _
  have HV2 := Lib.hid (show ∀ W, Below W2.heap.size W2 W → W.cell? ⟨N, 1, none⟩ = some (.slice hu.oa nu hu.cap) ∧ W.cell? ⟨N, 5, none⟩ = some (.int .i64 (j : Int)) ∧ W.cell? ⟨M, 0, none⟩ = some (.string dn) ∧ W.cell? ⟨M, 1, none⟩ = some (.slice (some ⟨bv, ov, none⟩) nf c2) ∧ W.cell? ⟨bv, ov + j * 4, none⟩ = some (.string xn) ∧ W.cell? ⟨bv, ov + j * 4 + 1, none⟩ = some (.int .i64 xk) ∧ W.cell? ⟨bv, ov + j * 4 + 2, none⟩ = some (.string xt) ∧ W.cell? ⟨bv, ov + j * 4 + 3, none⟩ = some (.slice xh.oa nx xh.cap) from fun W h => ⟨HV1.out W (HK2.out.trans (h.mono HK2.out.size)), HV5.out W (HK2.out.trans (h.mono HK2.out.size)), (cells3p ((h.block M (blk_lt HM2.out.1)).trans HM2.out.1)).1, (cells3p ((h.block M (blk_lt HM2.out.1)).trans HM2.out.1)).2.1, HXC.out W (HB0.out.1.trans ((HK2.out.trans (h.mono HK2.out.size)).mono HB0.out.1.size))⟩)
  go_upto_region 10 with fail
  refine wp_region_held_drew (S := (fun w' => w'.cell? ⟨N, 1, none⟩ = some (.slice hu.oa nu hu.cap) ∧ w'.cell? ⟨N, 5, none⟩ = some (.int .i64 (j : Int)) ∧ w'.cell? ⟨M, 0, none⟩ = some (.string dn) ∧ w'.cell? ⟨M, 1, none⟩ = some (.slice (some ⟨bv, ov, none⟩) nf c2) ∧ w'.cell? ⟨bv, ov + j * 4, none⟩ = some (.string xn) ∧ w'.cell? ⟨bv, ov + j * 4 + 1, none⟩ = some (.int .i64 xk) ∧ w'.cell? ⟨bv, ov + j * 4 + 2, none⟩ = some (.string xt) ∧ w'.cell? ⟨bv, ov + j * 4 + 3, none⟩ = some (.slice xh.oa nx xh.cap))) (by kernel_rfl) ?_ (fun hHeld => ?_)
  · exact HV2.out W2 (Below.refl _ _)
  refine wpAnyH_take (i := 0) (oi := { dst := some 50, op := Op.fieldAddr 74 (Operand.tmp 7) 0, type := 0, pos := "value.go:111", after := #[], guard := none }) (v := ?vq0_50) rfl (by kernel_rfl) (by kernel_rfl) (by kernel_rfl) (fun _ _ _ h => h) (Or.inl ⟨by rfl, ?hq0_50⟩) (by assumption) ?_
  case hq0_50 => intro w hSw; (try dsimp only at hSw); go_simp; try (with_reducible rfl)
  (try simp only [Act.put, qA, qB, qC])
  refine wpAnyH_take (i := 1) (oi := { dst := some 51, op := Op.load 9 (Operand.tmp 50), type := 9, pos := "value.go:111", after := #[{ on := 0, ground := Ground.data }], guard := none }) (v := ?vq1_51) rfl (by kernel_rfl) (by kernel_rfl) (by kernel_rfl) (fun _ _ _ h => h) (Or.inl ⟨by rfl, ?hq1_51⟩) (by assumption) ?_
  case hq1_51 => intro w hSw; (try dsimp only at hSw); go_simp; try (with_reducible rfl)
  (try simp only [Act.put, qA, qB, qC])
  refine wpAnyH_take (i := 2) (oi := { dst := some 52, op := Op.build 46 #[(0, Operand.const (Value.int IntKind.i64 3)), (1, Operand.tmp 51)], type := 46, pos := "value.go:111", after := #[{ on := 1, ground := Ground.data }], guard := none }) (v := ?vq2_52) rfl (by kernel_rfl) (by kernel_rfl) (by kernel_rfl) (fun _ _ _ h => h) (Or.inl ⟨by rfl, ?hq2_52⟩) (by assumption) ?_
  case hq2_52 => intro w hSw; (try dsimp only at hSw); go_simp; try (with_reducible rfl)
  (try simp only [Act.put, qA, qB, qC])
  refine wpAnyH_take (i := 3) (oi := { dst := some 53, op := Op.move (Operand.tmp 0), type := 85, pos := "value.go:111", after := #[], guard := none }) (v := ?vq3_53) rfl (by kernel_rfl) (by kernel_rfl) (by kernel_rfl) (fun _ _ _ h => h) (Or.inl ⟨by rfl, ?hq3_53⟩) (by assumption) ?_
  case hq3_53 => intro w hSw; (try dsimp only at hSw); go_simp; try (with_reducible rfl)
  (try simp only [Act.put, qA, qB, qC])
  refine wpAnyH_take (i := 4) (oi := { dst := some 54, op := Op.fieldAddr 37 (Operand.tmp 3) 1, type := 0, pos := "value.go:111", after := #[], guard := none }) (v := ?vq4_54) rfl (by kernel_rfl) (by kernel_rfl) (by kernel_rfl) (fun _ _ _ h => h) (Or.inl ⟨by rfl, ?hq4_54⟩) (by assumption) ?_
  case hq4_54 => intro w hSw; (try dsimp only at hSw); go_simp; try (with_reducible rfl)
  (try simp only [Act.put, qA, qB, qC])
  refine wpAnyH_take (i := 5) (oi := { dst := some 55, op := Op.load 35 (Operand.tmp 54), type := 35, pos := "value.go:111", after := #[{ on := 4, ground := Ground.data }], guard := none }) (v := ?vq5_55) rfl (by kernel_rfl) (by kernel_rfl) (by kernel_rfl) (fun _ _ _ h => h) (Or.inl ⟨by rfl, ?hq5_55⟩) (by assumption) ?_
  case hq5_55 => intro w hSw; (try dsimp only at hSw); go_simp; try (with_reducible rfl)
  (try simp only [Act.put, qA, qB, qC])
  refine wpAnyH_take (i := 6) (oi := { dst := some 56, op := Op.fieldAddr 74 (Operand.tmp 7) 1, type := 0, pos := "value.go:111", after := #[], guard := none }) (v := ?vq6_56) rfl (by kernel_rfl) (by kernel_rfl) (by kernel_rfl) (fun _ _ _ h => h) (Or.inl ⟨by rfl, ?hq6_56⟩) (by assumption) ?_
  case hq6_56 => intro w hSw; (try dsimp only at hSw); go_simp; try (with_reducible rfl)
  (try simp only [Act.put, qA, qB, qC])
  refine wpAnyH_take (i := 7) (oi := { dst := some 57, op := Op.load 72 (Operand.tmp 56), type := 72, pos := "value.go:111", after := #[{ on := 6, ground := Ground.data }], guard := none }) (v := ?vq7_57) rfl (by kernel_rfl) (by kernel_rfl) (by kernel_rfl) (fun _ _ _ h => h) (Or.inl ⟨by rfl, ?hq7_57⟩) (by assumption) ?_
  case hq7_57 => intro w hSw; (try dsimp only at hSw); go_simp; try (with_reducible rfl)
  (try simp only [Act.put, qA, qB, qC])
  refine wpAnyH_take (i := 8) (oi := { dst := some 58, op := Op.fieldAddr 37 (Operand.tmp 3) 4, type := 0, pos := "value.go:111", after := #[], guard := none }) (v := ?vq8_58) rfl (by kernel_rfl) (by kernel_rfl) (by kernel_rfl) (fun _ _ _ h => h) (Or.inl ⟨by rfl, ?hq8_58⟩) (by assumption) ?_
  case hq8_58 => intro w hSw; (try dsimp only at hSw); go_simp; try (with_reducible rfl)
  (try simp only [Act.put, qA, qB, qC])
  refine wpAnyH_take (i := 9) (oi := { dst := some 59, op := Op.load 3 (Operand.tmp 58), type := 3, pos := "value.go:111", after := #[{ on := 8, ground := Ground.data }], guard := none }) (v := ?vq9_59) rfl (by kernel_rfl) (by kernel_rfl) (by kernel_rfl) (fun _ _ _ h => h) (Or.inl ⟨by rfl, ?hq9_59⟩) (by assumption) ?_
  case hq9_59 => intro w hSw; (try dsimp only at hSw); go_simp; try (with_reducible rfl)
  (try simp only [Act.put, qA, qB, qC])
  refine wpAnyH_take (i := 10) (oi := { dst := some 60, op := Op.indexAddr 72 (Operand.tmp 57) (Operand.tmp 59), type := 0, pos := "value.go:111", after := #[{ on := 7, ground := Ground.data }, { on := 9, ground := Ground.data }], guard := none }) (v := ?vq10_60) rfl (by kernel_rfl) (by kernel_rfl) (by kernel_rfl) (fun _ _ _ h => h) (Or.inl ⟨by rfl, ?hq10_60⟩) (by assumption) ?_
  case hq10_60 => intro w hSw; (try dsimp only at hSw); go_simp; try (with_reducible rfl)
  (try simp only [Act.put, qA, qB, qC])
  refine wpAnyH_take (i := 11) (oi := { dst := some 61, op := Op.load 76 (Operand.tmp 60), type := 76, pos := "value.go:111", after := #[{ on := 10, ground := Ground.data }], guard := none }) (v := ?vq11_61) rfl (by kernel_rfl) (by kernel_rfl) (by kernel_rfl) (fun _ _ _ h => h) (Or.inl ⟨by rfl, ?hq11_61⟩) (by assumption) ?_
  case hq11_61 => intro w hSw; (try dsimp only at hSw); go_simp; try (with_reducible rfl)
  (try simp only [Act.put, qA, qB, qC])
  refine wpAnyH_ready (rs := [12]) (by kernel_rfl) (by simp) ?_
  refine AllReadyH.cons (o := { dst := some 62, op := Op.call { callee := Callee.value (Operand.func 116), args := #[Operand.tmp 61], argTypes := #[76] }, type := 69, pos := "value.go:111", after := #[{ on := 11, ground := Ground.data }], guard := none }) rfl (fun K hK => ?_) AllReadyH.nil
  go_simp
  have HD := Lib.hid (show Below W2.heap.size W2 W2.drew from ⟨rfl, rfl, rfl, Nat.le_refl _, fun _ _ => rfl⟩)
  have HWD := Lib.hid (HB0.out.1.trans ((HK2.out.trans (HD.out.mono HK2.out.size)).mono HB0.out.1.size))
  refine (HHE.out W2.drew HWD.out).mono ?_
  rintro e W5 ⟨⟨hh, rfl, hrow⟩, hb5⟩
  have HR5 := Lib.hid hrow
  have HK5 := Lib.hid (HD.out.trans hb5)
  have HW5 := Lib.hid (HWD.out.trans (hb5.mono HWD.out.size))
  clear hb5 hrow
  refine hK.out _ _ ?_ (fun hHeld => ?_)
  · exact HV2.out W5 HK5.out
  clear hK K
  (try simp only [Act.put, qA, qB, qC])
  refine wpAnyH_ready (rs := [13]) (by kernel_rfl) (by simp) ?_
  refine AllReadyH.cons (o := { dst := some 63, op := Op.call { callee := Callee.value (Operand.func 115), args := #[Operand.tmp 53, Operand.tmp 55, Operand.tmp 62], argTypes := #[85, 35, 69] }, type := 47, pos := "value.go:111", after := #[{ on := 3, ground := Ground.data }, { on := 5, ground := Ground.data }, { on := 12, ground := Ground.data }, { on := 12, ground := Ground.chain }], guard := none }) rfl (fun K hK => ?_) AllReadyH.nil
  go_simp
  refine (HHA.out W5 hh HW5.out HR5.out).mono ?_
  rintro e W3 ⟨rfl, hb3⟩
  have HK3 := Lib.hid (HK5.out.trans (hb3.mono HK5.out.size))
  clear hb3
  refine hK.out _ _ ?_ (fun hHeld => ?_)
  · exact HV2.out W3 HK3.out
  clear hK K
  (try simp only [Act.put, qA, qB, qC])
  refine wpAnyH_ready (rs := [14]) (by kernel_rfl) (by simp) ?_
  refine AllReadyH.cons (o := { dst := none, op := Op.store 46 (Operand.tmp 4) (Operand.tmp 52), type := 0, pos := "value.go:111", after := #[{ on := 2, ground := Ground.data }, { on := 13, ground := Ground.chain }, { on := 0, ground := Ground.phase }, { on := 1, ground := Ground.phase }, { on := 2, ground := Ground.phase }, { on := 3, ground := Ground.textOnly Departure.lateStores }, { on := 4, ground := Ground.textOnly Departure.lateStores }, { on := 5, ground := Ground.textOnly Departure.lateStores }, { on := 6, ground := Ground.textOnly Departure.lateStores }, { on := 7, ground := Ground.textOnly Departure.lateStores }, { on := 8, ground := Ground.textOnly Departure.lateStores }, { on := 9, ground := Ground.textOnly Departure.lateStores }, { on := 10, ground := Ground.textOnly Departure.lateStores }, { on := 11, ground := Ground.textOnly Departure.lateStores }, { on := 12, ground := Ground.textOnly Departure.lateStoresUnsure }, { on := 13, ground := Ground.textOnly Departure.lateStoresUnsure }], guard := none }) rfl (fun K hK => ?_) AllReadyH.nil
  try rw [if_pos (by rfl)]
  have HK4 := Lib.hid (HK2.out.trans (HK3.out.mono HK2.out.size))
  refine wp_store_box 46 (.tmp 4) (.tmp 52) rfl (N + 1) 0 rfl (.agg #[.int .i64 3, .string dn, .slice none 0 0]) rfl [.int .i64 3, .string dn, .slice none 0 0] rfl [.int .i64 0, .string ⟨#[]⟩, .slice none 0 0] 46 ((HK4.out.block (N + 1) (blk_lt HB0.out.2.2)).trans HB0.out.2.2) (Nat.le_refl _) (show (Tryz.prog.info? 46).map (·.size) = some 3 by kernel_rfl) ?cb9 (N + 1) (Nat.le_refl _) W3 (Below.refl _ _) ?_
  try case cb9 => first | exact ⟨rfl, rfl, rfl⟩ | (intro v hv; simp at hv; rcases hv with rfl | rfl | rfl <;> rfl)
  intro WF hb hbx hoth
  have HF := Lib.hid (show Below w.heap.size w WF from (HB0.out.1.trans (HK4.out.mono HB0.out.1.size)).trans (hb.mono HN1.out))
  have HFX := Lib.hid hbx
  have hnm : M ≠ N + 1 := fun e => by have h1 := HM2.out.2; have h2 := blk_lt HB0.out.2.2; omega
  have hbv : bv < W3.heap.size ∧ bv ≠ N + 1 := ⟨World.block_lt_of_cell? W3 _ (HV2.out W3 HK3.out).2.2.2.2.1, fun e => by
    have h1 := HBV.out
    have h2 := HN2.out
    omega⟩
  have HVF := Lib.hid (show WF.cell? ⟨N, 1, none⟩ = some (.slice hu.oa nu hu.cap) ∧ WF.cell? ⟨N, 5, none⟩ = some (.int .i64 (j : Int)) ∧ WF.cell? ⟨M, 0, none⟩ = some (.string dn) ∧ WF.cell? ⟨M, 1, none⟩ = some (.slice (some ⟨bv, ov, none⟩) nf c2) ∧ WF.cell? ⟨bv, ov + j * 4, none⟩ = some (.string xn) ∧ WF.cell? ⟨bv, ov + j * 4 + 1, none⟩ = some (.int .i64 xk) ∧ WF.cell? ⟨bv, ov + j * 4 + 2, none⟩ = some (.string xt) ∧ WF.cell? ⟨bv, ov + j * 4 + 3, none⟩ = some (.slice xh.oa nx xh.cap) from by
    obtain ⟨q1, q2, q3, q4, q5, q6, q7, q8⟩ := HV2.out W3 HK3.out
    exact ⟨(World.cell?_of_block (a := ⟨N, 1, none⟩) (hoth N (by omega))).trans q1, (World.cell?_of_block (a := ⟨N, 5, none⟩) (hoth N (by omega))).trans q2, (World.cell?_of_block (a := ⟨M, 0, none⟩) (hoth M hnm)).trans q3, (World.cell?_of_block (a := ⟨M, 1, none⟩) (hoth M hnm)).trans q4, (World.cell?_of_block (a := ⟨bv, ov + j * 4, none⟩) (hoth bv hbv.2)).trans q5, (World.cell?_of_block (a := ⟨bv, ov + j * 4 + 1, none⟩) (hoth bv hbv.2)).trans q6, (World.cell?_of_block (a := ⟨bv, ov + j * 4 + 2, none⟩) (hoth bv hbv.2)).trans q7, (World.cell?_of_block (a := ⟨bv, ov + j * 4 + 3, none⟩) (hoth bv hbv.2)).trans q8⟩)
  clear hbv
  clear hb hbx hoth hnm
  refine hK.out _ _ ?_ (fun hHeld => ?_)
  · exact HVF.out
  clear hK K
  (try simp only [Act.put, qA, qB, qC])
  refine wpAnyH_take (i := 15) (oi := { dst := some 5, op := Op.assign (Operand.tmp 63), type := 47, pos := "value.go:111", after := #[{ on := 13, ground := Ground.data }, { on := 14, ground := Ground.chain }, { on := 0, ground := Ground.phase }, { on := 1, ground := Ground.phase }, { on := 2, ground := Ground.phase }, { on := 3, ground := Ground.phase }, { on := 4, ground := Ground.phase }, { on := 5, ground := Ground.phase }, { on := 6, ground := Ground.phase }, { on := 7, ground := Ground.phase }, { on := 8, ground := Ground.phase }, { on := 9, ground := Ground.phase }, { on := 10, ground := Ground.phase }, { on := 11, ground := Ground.phase }, { on := 12, ground := Ground.phase }, { on := 13, ground := Ground.phase }, { on := 14, ground := Ground.phase }], guard := none }) (v := ?vq15_62) rfl (by kernel_rfl) (by kernel_rfl) (by kernel_rfl) (fun _ _ _ h => h) (Or.inl ⟨by rfl, ?hq15_62⟩) (by assumption) ?_
  case hq15_62 => intro w hSw; (try dsimp only at hSw); go_simp; try (with_reducible rfl)
  (try simp only [Act.put, qA, qB, qC])
  refine wpAnyH_done (by kernel_rfl) ?_ _
  obtain ⟨f0, f1, f2, ff, fl⟩ := cells3p HFX.out
  go_wp2
  refine bodyPost_ret (v := .tuple #[.agg #[.int .i64 3, .string dn, .slice none 0 0], .int .i64 UR]) (by simp [results, Tryz.results87, go_sem, f0, f1, f2]) rfl ⟨HF.out, ?_⟩
  exact ⟨.mk 3 dn h0 [], UR, 1, rfl, HUR.out, fun _ => by rw [← HR.out]; rfl, ⟨by unfold I64; omega, Row.nil _ _ _ _⟩⟩

end Go.Proofs.YtghkbihgdabamaaGreatDoor
