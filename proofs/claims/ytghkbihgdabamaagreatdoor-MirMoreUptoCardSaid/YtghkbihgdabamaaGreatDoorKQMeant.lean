/-
  What a type means among a source's items. Conditions: the source and the type lie in the heap.
-/
import Derived.Test.YtghkbihgdabamaaGreatDoorKPRes
namespace Go.Proofs.YtghkbihgdabamaaGreatDoor
open Go.RowKit

/-- what a type means: a kind and a place -/
def meantO (s : So5) (t : Ty5) : Int × Int := match t with
  | .mk k nm _ _ => if k = 2 ∧ placeO s k nm < 0 then (3, placeO s 3 nm) else (k, placeO s k nm)
theorem placeO_neg (s : So5) (k : Int) (nm : ByteArray) : placeO s k nm = -1 ∨ ∃ i : Nat, placeO s k nm = (i : Int) := by
  have h : ∀ {α : Type} (g : α → Bool) (l : List α), fiO g l 0 = -1 ∨ ∃ i : Nat, fiO g l 0 = (i : Int) := fun g l => by
    rcases fiO_spec (g := g) l 0 with ⟨h, _⟩ | ⟨i, _, _, _, h, _⟩
    · exact .inl h
    · exact .inr ⟨0 + i, h⟩
  unfold placeO
  split
  · exact h _ _
  · split
    · exact h _ _
    · split
      · exact h _ _
      · exact .inl rfl
set_option maxRecDepth 100000 in
set_option maxHeartbeats 40000000 in
theorem meant_sr (n : Nat) (s : So5) (k : Int) (nm : ByteArray) (h : Hd) (l : List Ty5) (c : Nat) (w : World) (hs : SoH n w s) (hc : SrAt w s c) :
    Calls Tryz.prog 155 #[itV s (srF c), tyV (.mk k nm h l)] w fun e w' => e = .returned (.tuple #[.agg #[.int .i64 (meantO s (.mk k nm h l)).1, .int .i64 (meantO s (.mk k nm h l)).2], .bool (decide ((meantO s (.mk k nm h l)).2 ≥ 0))]) ∧ Below w.heap.size w w' := by
  obtain ⟨R1, hR1⟩ : ∃ R, R = (meantO s (.mk k nm h l)).1 := ⟨_, rfl⟩
  obtain ⟨R2, hR2⟩ : ∃ R, R = (meantO s (.mk k nm h l)).2 := ⟨_, rfl⟩
  rw [← hR1, ← hR2]
  obtain ⟨p, hp⟩ : ∃ p, p = placeO s k nm := ⟨_, rfl⟩
  obtain ⟨q, hq⟩ : ∃ q, q = placeO s 3 nm := ⟨_, rfl⟩
  unfold meantO at hR1 hR2
  simp only [← hp, ← hq] at hR1 hR2
  have hpn := placeO_neg s k nm
  have hqn := placeO_neg s 3 nm
  rw [← hp] at hpn
  rw [← hq] at hqn
  obtain ⟨n1, hn1⟩ : ∃ k, s.structs.length = k := ⟨_, rfl⟩
  obtain ⟨n2, hn2⟩ : ∃ k, s.enums.length = k := ⟨_, rfl⟩
  obtain ⟨n3, hn3⟩ : ∃ k, s.fns.length = k := ⟨_, rfl⟩
  obtain ⟨o1, c1, hh1⟩ : ∃ o c, s.hs = ⟨o, c⟩ := ⟨_, _, rfl⟩
  obtain ⟨o2, c2, hh2⟩ : ∃ o c, s.he = ⟨o, c⟩ := ⟨_, _, rfl⟩
  obtain ⟨o3, c3, hh3⟩ : ∃ o c, s.hf = ⟨o, c⟩ := ⟨_, _, rfl⟩
  obtain ⟨W0, hW⟩ : ∃ W, W = ((w.alloc (.cells #[.slice o1 n1 c1, .slice o2 n2 c2, .slice o3 n3 c3, .func (.func 135) #[] #[.pointer (some ⟨c, 0, none⟩)]] 176)).alloc (.cells #[.int .i64 k, .string nm, .slice h.oa l.length h.cap] 46)).alloc (.cells #[.int .i64 0, .int .i64 0] 217) := ⟨_, rfl⟩
  obtain ⟨hb0, hx0, hx1, hx2⟩ := pal3 w (.cells #[.slice o1 n1 c1, .slice o2 n2 c2, .slice o3 n3 c3, .func (.func 135) #[] #[.pointer (some ⟨c, 0, none⟩)]] 176) (.cells #[.int .i64 k, .string nm, .slice h.oa l.length h.cap] 46) (.cells #[.int .i64 0, .int .i64 0] 217)
  rw [← hW] at hb0 hx0 hx1 hx2
  have hCL : ∀ (kk pp : Int) W, placeO s kk nm = pp → Below w.heap.size w W → Calls Tryz.prog 135 #[.agg #[.int .i64 kk, .string nm], .pointer (some ⟨c, 0, none⟩)] W fun e w' => e = .returned (.int .i64 pp) ∧ Below W.heap.size W w' := fun kk pp W he hW => by
    have := place_sr n s kk nm c W (SoH.below hs hW) (hc.below hW)
    rw [he] at this
    exact this
  have HP := Lib.hid (show ∀ W, Below w.heap.size w W → _ from fun W hW => hCL k p W hp.symm hW)
  have HQ := Lib.hid (show ∀ W, Below w.heap.size w W → _ from fun W hW => hCL 3 q W hq.symm hW)
  have HPN := Lib.hid (And.intro hpn hqn)
  have HR := Lib.hid (And.intro hR1 hR2)
  have HB0 := Lib.hid hb0
  unfold itV srF tyV tyC
  simp only [hh1, hh2, hh3, hn1, hn2, hn3]
  obtain ⟨N, hN⟩ : ∃ N, N = w.heap.size := ⟨_, rfl⟩
  rw [← hN] at hx0 hx1 hx2
  have HX := Lib.hid (And.intro hx0 (And.intro hx1 hx2))
  have HN := Lib.hid hN
  clear hCL hp hq hpn hqn hR1 hR2 hs hc hx0 hx1 hx2 hb0 hn1 hn2 hn3 hh1 hh2 hh3
  go_enter Tryz.func155, Tryz.ntmps155
  go_upto_region 1 with fail
  rw [← hW]
  clear hW
  try simp only [← hN]
  clear hN
  obtain ⟨z0, z1, z2, z3, zf, zl⟩ := cells4p HX.out.1
  obtain ⟨y0, y1, y2, yf, yl⟩ := cells3p HX.out.2.1
  go_wp2_with fail
  refine wp_region_held_drew (S := (fun w' => w'.cell? ⟨N, 3, none⟩ = some (.func (.func 135) #[] #[.pointer (some ⟨c, 0, none⟩)]) ∧ w'.cell? ⟨N + 1, 0, none⟩ = some (.int .i64 k) ∧ w'.cell? ⟨N + 1, 1, none⟩ = some (.string nm))) (by kernel_rfl) ?_ (fun hHeld => ?_)
  · exact ⟨z3, y0, y1⟩
  clear z0 z1 z2 z3 zf zl y0 y1 y2 yf yl
  refine wpAnyH_take (i := 0) (oi := { dst := some 7, op := Op.fieldAddr 46 (Operand.tmp 3) 0, type := 0, pos := "items.go:144", after := #[], guard := none }) (v := ?vq0_1) rfl (by kernel_rfl) (by kernel_rfl) (by kernel_rfl) (fun _ _ _ h => h) (Or.inl ⟨by rfl, ?hq0_1⟩) (by assumption) ?_
  case hq0_1 => intro w hSw; (try dsimp only at hSw); go_simp; try (with_reducible rfl)
  (try simp only [Act.put, qA, qB, qC])
  refine wpAnyH_take (i := 1) (oi := { dst := some 8, op := Op.load 43 (Operand.tmp 7), type := 43, pos := "items.go:144", after := #[{ on := 0, ground := Ground.data }], guard := none }) (v := ?vq1_2) rfl (by kernel_rfl) (by kernel_rfl) (by kernel_rfl) (fun _ _ _ h => h) (Or.inl ⟨by rfl, ?hq1_2⟩) (by assumption) ?_
  case hq1_2 => intro w hSw; (try dsimp only at hSw); go_simp; try (with_reducible rfl)
  (try simp only [Act.put, qA, qB, qC])
  refine wpAnyH_take (i := 2) (oi := { dst := some 9, op := Op.fieldAddr 176 (Operand.tmp 2) 1, type := 0, pos := "items.go:144", after := #[], guard := none }) (v := ?vq2_3) rfl (by kernel_rfl) (by kernel_rfl) (by kernel_rfl) (fun _ _ _ h => h) (Or.inl ⟨by rfl, ?hq2_3⟩) (by assumption) ?_
  case hq2_3 => intro w hSw; (try dsimp only at hSw); go_simp; try (with_reducible rfl)
  (try simp only [Act.put, qA, qB, qC])
  refine wpAnyH_take (i := 3) (oi := { dst := some 10, op := Op.load 174 (Operand.tmp 9), type := 174, pos := "items.go:144", after := #[{ on := 2, ground := Ground.data }], guard := none }) (v := ?vq3_4) rfl (by kernel_rfl) (by kernel_rfl) (by kernel_rfl) (fun _ _ _ h => h) (Or.inl ⟨by rfl, ?hq3_4⟩) (by assumption) ?_
  case hq3_4 => intro w hSw; (try dsimp only at hSw); go_simp; try (with_reducible rfl)
  (try simp only [Act.put, qA, qB, qC])
  refine wpAnyH_take (i := 4) (oi := { dst := some 11, op := Op.fieldAddr 46 (Operand.tmp 3) 0, type := 0, pos := "items.go:144", after := #[], guard := none }) (v := ?vq4_5) rfl (by kernel_rfl) (by kernel_rfl) (by kernel_rfl) (fun _ _ _ h => h) (Or.inl ⟨by rfl, ?hq4_5⟩) (by assumption) ?_
  case hq4_5 => intro w hSw; (try dsimp only at hSw); go_simp; try (with_reducible rfl)
  (try simp only [Act.put, qA, qB, qC])
  refine wpAnyH_take (i := 5) (oi := { dst := some 12, op := Op.load 43 (Operand.tmp 11), type := 43, pos := "items.go:144", after := #[{ on := 4, ground := Ground.data }], guard := none }) (v := ?vq5_6) rfl (by kernel_rfl) (by kernel_rfl) (by kernel_rfl) (fun _ _ _ h => h) (Or.inl ⟨by rfl, ?hq5_6⟩) (by assumption) ?_
  case hq5_6 => intro w hSw; (try dsimp only at hSw); go_simp; try (with_reducible rfl)
  (try simp only [Act.put, qA, qB, qC])
  refine wpAnyH_take (i := 6) (oi := { dst := some 13, op := Op.fieldAddr 46 (Operand.tmp 3) 1, type := 0, pos := "items.go:144", after := #[], guard := none }) (v := ?vq6_7) rfl (by kernel_rfl) (by kernel_rfl) (by kernel_rfl) (fun _ _ _ h => h) (Or.inl ⟨by rfl, ?hq6_7⟩) (by assumption) ?_
  case hq6_7 => intro w hSw; (try dsimp only at hSw); go_simp; try (with_reducible rfl)
  (try simp only [Act.put, qA, qB, qC])
  refine wpAnyH_take (i := 7) (oi := { dst := some 14, op := Op.load 9 (Operand.tmp 13), type := 9, pos := "items.go:144", after := #[{ on := 6, ground := Ground.data }], guard := none }) (v := ?vq7_8) rfl (by kernel_rfl) (by kernel_rfl) (by kernel_rfl) (fun _ _ _ h => h) (Or.inl ⟨by rfl, ?hq7_8⟩) (by assumption) ?_
  case hq7_8 => intro w hSw; (try dsimp only at hSw); go_simp; try (with_reducible rfl)
  (try simp only [Act.put, qA, qB, qC])
  refine wpAnyH_take (i := 8) (oi := { dst := some 15, op := Op.build 197 #[(0, Operand.tmp 12), (1, Operand.tmp 14)], type := 197, pos := "items.go:144", after := #[{ on := 5, ground := Ground.data }, { on := 7, ground := Ground.data }], guard := none }) (v := ?vq8_9) rfl (by kernel_rfl) (by kernel_rfl) (by kernel_rfl) (fun _ _ _ h => h) (Or.inl ⟨by rfl, ?hq8_9⟩) (by assumption) ?_
  case hq8_9 => intro w hSw; (try dsimp only at hSw); go_simp; try (with_reducible rfl)
  (try simp only [Act.put, qA, qB, qC])
  refine wpAnyH_ready (rs := [9, 11]) (by kernel_rfl) (by simp) ?_
  refine AllReadyH.cons (o := { dst := some 16, op := Op.call { callee := Callee.value (Operand.tmp 10), args := #[Operand.tmp 15], argTypes := #[197] }, type := 3, pos := "items.go:144", after := #[{ on := 3, ground := Ground.data }, { on := 8, ground := Ground.data }], guard := none }) rfl (fun K hK => ?_) (AllReadyH.cons (o := { dst := some 6, op := Op.alloc 217, type := 0, pos := "items.go:144", after := #[], guard := none }) rfl (fun K hK => ?_) AllReadyH.nil)
  · go_simp
    refine (HP.out W0.drew (HB0.out.trans ⟨rfl, rfl, rfl, Nat.le_refl _, fun _ _ => rfl⟩)).mono ?_
    rintro e W1 ⟨rfl, hb1⟩
    have HK1 := Lib.hid (show Below W0.heap.size W0 W1 from (show Below W0.heap.size W0 W0.drew from ⟨rfl, rfl, rfl, Nat.le_refl _, fun _ _ => rfl⟩).trans hb1)
    clear hb1
    refine hK.out _ _ ?_ (fun hHeld => ?_)
    · exact ⟨(World.cell?_of_block (HK1.out.block N (blk_lt HX.out.1))).trans (cells4p HX.out.1).2.2.2.1, (World.cell?_of_block (HK1.out.block (N + 1) (blk_lt HX.out.2.1))).trans (cells3p HX.out.2.1).1, (World.cell?_of_block (HK1.out.block (N + 1) (blk_lt HX.out.2.1))).trans (cells3p HX.out.2.1).2.1⟩
    clear hK K
    (try simp only [Act.put, qA, qB, qC])
    refine wpAnyH_take (i := 10) (oi := { dst := some 17, op := Op.build 217 #[(0, Operand.tmp 8), (1, Operand.tmp 16)], type := 217, pos := "items.go:144", after := #[{ on := 1, ground := Ground.data }, { on := 9, ground := Ground.data }], guard := none }) (v := ?vq10_10) rfl (by kernel_rfl) (by kernel_rfl) (by kernel_rfl) (fun _ _ _ h => h) (Or.inl ⟨by rfl, ?hq10_10⟩) (by assumption) ?_
    case hq10_10 => intro w hSw; (try dsimp only at hSw); go_simp; try (with_reducible rfl)
    (try simp only [Act.put, qA, qB, qC])
    refine wpAnyH_ready (rs := [11]) (by kernel_rfl) (by simp) ?_
    refine AllReadyH.cons (o := { dst := some 6, op := Op.alloc 217, type := 0, pos := "items.go:144", after := #[], guard := none }) rfl (fun K hK => ?_) AllReadyH.nil
    go_simp
    obtain ⟨M, hM⟩ : ∃ M, M = W1.heap.size := ⟨_, rfl⟩
    obtain ⟨W2, hW2⟩ : ∃ W, W = W1.alloc (.cells #[.int .i64 0, .int .i64 0] 217) := ⟨_, rfl⟩
    rw [← hW2]
    have HM := Lib.hid (show W2.heap[M]? = some (.cells #[.int .i64 0, .int .i64 0] 217) ∧ W0.heap.size ≤ M ∧ Below W0.heap.size W0 W2 from ⟨by rw [hW2, hM]; exact heap_alloc_new _ _, by rw [hM]; exact HK1.out.size, by rw [hW2]; exact HK1.out.alloc HK1.out.size _⟩)
    try simp only [← hM]
    clear hM hW2
    refine hK.out _ _ ?_ (fun hHeld => ?_)
    · exact ⟨(World.cell?_of_block (HM.out.2.2.block N (blk_lt HX.out.1))).trans (cells4p HX.out.1).2.2.2.1, (World.cell?_of_block (HM.out.2.2.block (N + 1) (blk_lt HX.out.2.1))).trans (cells3p HX.out.2.1).1, (World.cell?_of_block (HM.out.2.2.block (N + 1) (blk_lt HX.out.2.1))).trans (cells3p HX.out.2.1).2.1⟩
    clear hK K
    (try simp only [Act.put, qA, qB, qC])
    refine wpAnyH_ready (rs := [12]) (by kernel_rfl) (by simp) ?_
    refine AllReadyH.cons (o := { dst := none, op := Op.store 217 (Operand.tmp 6) (Operand.tmp 17), type := 0, pos := "items.go:144", after := #[{ on := 11, ground := Ground.data }, { on := 10, ground := Ground.data }, { on := 9, ground := Ground.chain }, { on := 0, ground := Ground.phase }, { on := 1, ground := Ground.phase }, { on := 2, ground := Ground.phase }, { on := 3, ground := Ground.phase }, { on := 4, ground := Ground.phase }, { on := 5, ground := Ground.phase }, { on := 6, ground := Ground.phase }, { on := 7, ground := Ground.phase }, { on := 8, ground := Ground.phase }, { on := 9, ground := Ground.phase }, { on := 10, ground := Ground.phase }, { on := 11, ground := Ground.phase }], guard := none }) rfl (fun K hK => ?_) AllReadyH.nil
    rw [if_pos (by rfl)]
    refine wp_store_box 217 (.tmp 6) (.tmp 17) rfl M 0 rfl (.agg #[.int .i64 k, .int .i64 p]) rfl [.int .i64 k, .int .i64 p] rfl [.int .i64 0, .int .i64 0] 217 HM.out.1 (Nat.le_refl _) (show (Tryz.prog.info? 217).map (·.size) = some 2 by kernel_rfl) ?cx1 M (Nat.le_refl _) W2 (Below.refl _ _) ?_
    try case cx1 => first | exact ⟨rfl, rfl⟩ | (intro v hv; simp at hv; first | (rcases hv with rfl | rfl <;> rfl) | (subst hv; rfl))
    intro W3 hb hbx hoth
    have HK3 := Lib.hid (show Below W0.heap.size W0 W3 from HM.out.2.2.trans (hb.mono HM.out.2.1))
    have HM3 := Lib.hid (show W3.heap[M]? = some (.cells #[.int .i64 k, .int .i64 p] 217) from hbx)
    have HML := Lib.hid HM.out.2.1
    clear hb hbx hoth HM
    refine hK.out _ _ ?_ (fun hHeld => ?_)
    · exact ⟨(World.cell?_of_block (HK3.out.block N (blk_lt HX.out.1))).trans (cells4p HX.out.1).2.2.2.1, (World.cell?_of_block (HK3.out.block (N + 1) (blk_lt HX.out.2.1))).trans (cells3p HX.out.2.1).1, (World.cell?_of_block (HK3.out.block (N + 1) (blk_lt HX.out.2.1))).trans (cells3p HX.out.2.1).2.1⟩
    clear hK K
    (try simp only [Act.put, qA, qB, qC])
    refine wpAnyH_done (by kernel_rfl) ?_ _
    by_cases hk2 : k = 2
    · subst hk2
      by_cases hp0 : p < 0
      · have t1 : decide (p < 0) = true := by simpa using hp0
        have HP0 := Lib.hid hp0
        clear hp0
        obtain ⟨m0, m1, mf, ml⟩ := cells2p HM3.out
        have hxa := (HK3.out.block N (blk_lt HX.out.1)).trans HX.out.1
        have hxb := (HK3.out.block (N + 1) (blk_lt HX.out.2.1)).trans HX.out.2.1
        obtain ⟨z0, z1, z2, z3, zf, zl⟩ := cells4p hxa
        obtain ⟨y0, y1, y2, yf, yl⟩ := cells3p hxb
        clear hxa hxb
        go_wp2_with (first
          | (go_loud (go_at_call 135; refine (HQ.out W3 (HB0.out.trans (HK3.out.mono HB0.out.size))).mono ?_; rintro e W4 ⟨rfl, hb1⟩; have HK4 := Lib.hid (HK3.out.trans (hb1.mono HK3.out.size)); have HM4 := Lib.hid ((hb1.block M (blk_lt HM3.out)).trans HM3.out); clear hb1))
          | (go_loud (refine wpList_store_box rfl 217 (.tmp 6) (.tmp 32) rfl M 0 rfl (.agg #[.int .i64 3, .int .i64 q]) rfl [.int .i64 3, .int .i64 q] rfl [.int .i64 2, .int .i64 p] 217 HM4.out (Nat.le_refl _) (show (Tryz.prog.info? 217).map (·.size) = some 2 by kernel_rfl) ?cx1 M (Nat.le_refl _) W4 (Below.refl _ _) ?_)))
        try case cx1 => first | exact ⟨rfl, rfl⟩ | (intro v hv; simp at hv; first | (rcases hv with rfl | rfl <;> rfl) | (subst hv; rfl))
        intro W5 hb hbx hoth
        have HK5 := Lib.hid (show Below W0.heap.size W0 W5 from HK4.out.trans (hb.mono HML.out))
        have HM5 := Lib.hid (show W5.heap[M]? = some (.cells #[.int .i64 3, .int .i64 q] 217) from hbx)
        clear hb hbx hoth m0 m1 mf ml z0 z1 z2 z3 zf zl y0 y1 y2 yf yl t1
        obtain ⟨m0, m1, mf, ml⟩ := cells2p HM5.out
        go_wp2_with fail
        refine wp_region_held_drew (S := (fun w' => w'.cell? ⟨M, 0, none⟩ = some (.int .i64 3) ∧ w'.cell? ⟨M, 1, none⟩ = some (.int .i64 q))) (by kernel_rfl) ?_ (fun hHeld => ?_)
        · exact ⟨m0, m1⟩
        clear m0 m1 mf ml
        refine wpAnyH_take (i := 0) (oi := { dst := some 33, op := Op.load 217 (Operand.tmp 6), type := 217, pos := "items.go:148", after := #[], guard := none }) (v := ?vq0_12) rfl (by kernel_rfl) (by kernel_rfl) (by kernel_rfl) (fun _ _ _ h => h) (Or.inl ⟨by rfl, ?hq0_12⟩) (by assumption) ?_
        case hq0_12 => intro w hSw; (try dsimp only at hSw); go_simp; try (with_reducible rfl)
        (try simp only [Act.put, qA, qB, qC])
        refine wpAnyH_take (i := 1) (oi := { dst := some 34, op := Op.fieldAddr 217 (Operand.tmp 6) 1, type := 0, pos := "items.go:148", after := #[{ on := 4, ground := Ground.gcOnly Departure.lateStores }], guard := none }) (v := ?vq1_13) rfl (by kernel_rfl) (by kernel_rfl) (by kernel_rfl) (fun _ _ _ h => h) (Or.inl ⟨by rfl, ?hq1_13⟩) (by assumption) ?_
        case hq1_13 => intro w hSw; (try dsimp only at hSw); go_simp; try (with_reducible rfl)
        (try simp only [Act.put, qA, qB, qC])
        refine wpAnyH_take (i := 2) (oi := { dst := some 35, op := Op.load 3 (Operand.tmp 34), type := 3, pos := "items.go:148", after := #[{ on := 1, ground := Ground.data }, { on := 4, ground := Ground.gcOnly Departure.lateStores }], guard := none }) (v := ?vq2_14) rfl (by kernel_rfl) (by kernel_rfl) (by kernel_rfl) (fun _ _ _ h => h) (Or.inl ⟨by rfl, ?hq2_14⟩) (by assumption) ?_
        case hq2_14 => intro w hSw; (try dsimp only at hSw); go_simp; try (with_reducible rfl)
        (try simp only [Act.put, qA, qB, qC])
        refine wpAnyH_take (i := 3) (oi := { dst := some 36, op := Op.binOp BinOp.geq 3 (Operand.tmp 35) (Operand.const (Value.int IntKind.i64 0)) 3, type := 4, pos := "items.go:148", after := #[{ on := 2, ground := Ground.data }, { on := 4, ground := Ground.gcOnly Departure.lateStores }], guard := none }) (v := .bool (decide (q ≥ 0))) rfl (by kernel_rfl) (by kernel_rfl) (by kernel_rfl) (fun _ _ _ h => h) (Or.inl ⟨by rfl, ?hq3_15⟩) (by assumption) ?_
        case hq3_15 => intro w hSw; (try dsimp only at hSw); go_simp; try (with_reducible rfl)
        (try simp only [Act.put, qA, qB, qC])
        refine wpAnyH_ready (rs := [4]) (by kernel_rfl) (by simp) ?_
        refine AllReadyH.cons (o := { dst := none, op := Op.store 217 (Operand.tmp 4) (Operand.tmp 33), type := 0, pos := "items.go:148", after := #[{ on := 0, ground := Ground.data }, { on := 0, ground := Ground.phase }, { on := 1, ground := Ground.textOnly Departure.lateStores }, { on := 2, ground := Ground.textOnly Departure.lateStores }, { on := 3, ground := Ground.textOnly Departure.lateStores }], guard := none }) rfl (fun K hK => ?_) AllReadyH.nil
        rw [if_pos (by rfl)]
        refine wp_store_box 217 (.tmp 4) (.tmp 33) rfl (N + 1 + 1) 0 rfl (.agg #[.int .i64 3, .int .i64 q]) rfl [.int .i64 3, .int .i64 q] rfl [.int .i64 0, .int .i64 0] 217 (show W5.drew.heap[N + 1 + 1]? = _ from (HK5.out.block (N + 1 + 1) (blk_lt HX.out.2.2)).trans HX.out.2.2) (Nat.le_refl _) (show (Tryz.prog.info? 217).map (·.size) = some 2 by kernel_rfl) ?cx1 (N + 1 + 1) (Nat.le_refl _) W5.drew (Below.refl _ _) ?_
        try case cx1 => first | exact ⟨rfl, rfl⟩ | (intro v hv; simp at hv; first | (rcases hv with rfl | rfl <;> rfl) | (subst hv; rfl))
        intro WF hb hbx hoth
        have hML : M ≠ N + 1 + 1 := fun e => by have h1 := HML.out; have h2 := blk_lt HX.out.2.2; omega
        have HF := Lib.hid (And.intro (HB0.out.trans ((HK5.out.trans (show Below W0.heap.size W5 W5.drew from ⟨rfl, rfl, rfl, Nat.le_refl _, fun _ _ => rfl⟩)).mono HB0.out.size)) hbx)
        have HFB := Lib.hid hb
        have HMF := Lib.hid (show WF.heap[M]? = some (.cells #[.int .i64 3, .int .i64 q] 217) from (hoth M hML).trans HM5.out)
        clear hb hbx hoth hML
        refine hK.out _ _ ?_ (fun hHeld => ?_)
        · exact ⟨(cells2p HMF.out).1, (cells2p HMF.out).2.1⟩
        clear hK K
        (try simp only [Act.put, qA, qB, qC])
        refine wpAnyH_take (i := 5) (oi := { dst := some 5, op := Op.assign (Operand.tmp 36), type := 4, pos := "items.go:148", after := #[{ on := 3, ground := Ground.data }, { on := 4, ground := Ground.chain }, { on := 0, ground := Ground.phase }, { on := 1, ground := Ground.phase }, { on := 2, ground := Ground.phase }, { on := 3, ground := Ground.phase }, { on := 4, ground := Ground.phase }], guard := none }) (v := ?vq5_16) rfl (by kernel_rfl) (by kernel_rfl) (by kernel_rfl) (fun _ _ _ h => h) (Or.inl ⟨by rfl, ?hq5_16⟩) (by assumption) ?_
        case hq5_16 => intro w hSw; (try dsimp only at hSw); go_simp; try (with_reducible rfl)
        (try simp only [Act.put, qA, qB, qC])
        refine wpAnyH_done (by kernel_rfl) ?_ _
        obtain ⟨q0, q1, qf, ql⟩ := cells2p HF.out.2
        go_wp2
        refine bodyPost_ret (v := .tuple #[.agg #[.int .i64 3, .int .i64 q], .bool (decide (q ≥ 0))]) (by simp [results, Tryz.results155, go_sem, q0, q1]) rfl ⟨?_, HF.out.1.trans (HFB.out.mono (by have := HN.out; omega))⟩
        exact by rw [show R1 = 3 from HR.out.1.trans (by simp [show p < 0 by have := HP0.out; omega]), show R2 = q from HR.out.2.trans (by simp [show p < 0 by have := HP0.out; omega])]
      · have t1 : decide (p < 0) = false := by simpa using hp0
        have HP0 := Lib.hid hp0
        clear hp0
        obtain ⟨m0, m1, mf, ml⟩ := cells2p HM3.out
        have hxb := (HK3.out.block (N + 1) (blk_lt HX.out.2.1)).trans HX.out.2.1
        obtain ⟨y0, y1, y2, yf, yl⟩ := cells3p hxb
        clear hxb
        go_upto_region 4 with fail
        clear m0 m1 mf ml y0 y1 y2 yf yl t1
        obtain ⟨m0, m1, mf, ml⟩ := cells2p HM3.out
        go_wp2_with fail
        refine wp_region_held_drew (S := (fun w' => w'.cell? ⟨M, 0, none⟩ = some (.int .i64 2) ∧ w'.cell? ⟨M, 1, none⟩ = some (.int .i64 p))) (by kernel_rfl) ?_ (fun hHeld => ?_)
        · exact ⟨m0, m1⟩
        clear m0 m1 mf ml
        refine wpAnyH_take (i := 0) (oi := { dst := some 33, op := Op.load 217 (Operand.tmp 6), type := 217, pos := "items.go:148", after := #[], guard := none }) (v := ?vq0_17) rfl (by kernel_rfl) (by kernel_rfl) (by kernel_rfl) (fun _ _ _ h => h) (Or.inl ⟨by rfl, ?hq0_17⟩) (by assumption) ?_
        case hq0_17 => intro w hSw; (try dsimp only at hSw); go_simp; try (with_reducible rfl)
        (try simp only [Act.put, qA, qB, qC])
        refine wpAnyH_take (i := 1) (oi := { dst := some 34, op := Op.fieldAddr 217 (Operand.tmp 6) 1, type := 0, pos := "items.go:148", after := #[{ on := 4, ground := Ground.gcOnly Departure.lateStores }], guard := none }) (v := ?vq1_18) rfl (by kernel_rfl) (by kernel_rfl) (by kernel_rfl) (fun _ _ _ h => h) (Or.inl ⟨by rfl, ?hq1_18⟩) (by assumption) ?_
        case hq1_18 => intro w hSw; (try dsimp only at hSw); go_simp; try (with_reducible rfl)
        (try simp only [Act.put, qA, qB, qC])
        refine wpAnyH_take (i := 2) (oi := { dst := some 35, op := Op.load 3 (Operand.tmp 34), type := 3, pos := "items.go:148", after := #[{ on := 1, ground := Ground.data }, { on := 4, ground := Ground.gcOnly Departure.lateStores }], guard := none }) (v := ?vq2_19) rfl (by kernel_rfl) (by kernel_rfl) (by kernel_rfl) (fun _ _ _ h => h) (Or.inl ⟨by rfl, ?hq2_19⟩) (by assumption) ?_
        case hq2_19 => intro w hSw; (try dsimp only at hSw); go_simp; try (with_reducible rfl)
        (try simp only [Act.put, qA, qB, qC])
        refine wpAnyH_take (i := 3) (oi := { dst := some 36, op := Op.binOp BinOp.geq 3 (Operand.tmp 35) (Operand.const (Value.int IntKind.i64 0)) 3, type := 4, pos := "items.go:148", after := #[{ on := 2, ground := Ground.data }, { on := 4, ground := Ground.gcOnly Departure.lateStores }], guard := none }) (v := .bool (decide (p ≥ 0))) rfl (by kernel_rfl) (by kernel_rfl) (by kernel_rfl) (fun _ _ _ h => h) (Or.inl ⟨by rfl, ?hq3_20⟩) (by assumption) ?_
        case hq3_20 => intro w hSw; (try dsimp only at hSw); go_simp; try (with_reducible rfl)
        (try simp only [Act.put, qA, qB, qC])
        refine wpAnyH_ready (rs := [4]) (by kernel_rfl) (by simp) ?_
        refine AllReadyH.cons (o := { dst := none, op := Op.store 217 (Operand.tmp 4) (Operand.tmp 33), type := 0, pos := "items.go:148", after := #[{ on := 0, ground := Ground.data }, { on := 0, ground := Ground.phase }, { on := 1, ground := Ground.textOnly Departure.lateStores }, { on := 2, ground := Ground.textOnly Departure.lateStores }, { on := 3, ground := Ground.textOnly Departure.lateStores }], guard := none }) rfl (fun K hK => ?_) AllReadyH.nil
        rw [if_pos (by rfl)]
        refine wp_store_box 217 (.tmp 4) (.tmp 33) rfl (N + 1 + 1) 0 rfl (.agg #[.int .i64 2, .int .i64 p]) rfl [.int .i64 2, .int .i64 p] rfl [.int .i64 0, .int .i64 0] 217 (show W3.drew.heap[N + 1 + 1]? = _ from (HK3.out.block (N + 1 + 1) (blk_lt HX.out.2.2)).trans HX.out.2.2) (Nat.le_refl _) (show (Tryz.prog.info? 217).map (·.size) = some 2 by kernel_rfl) ?cx1 (N + 1 + 1) (Nat.le_refl _) W3.drew (Below.refl _ _) ?_
        try case cx1 => first | exact ⟨rfl, rfl⟩ | (intro v hv; simp at hv; first | (rcases hv with rfl | rfl <;> rfl) | (subst hv; rfl))
        intro WF hb hbx hoth
        have hML : M ≠ N + 1 + 1 := fun e => by have h1 := HML.out; have h2 := blk_lt HX.out.2.2; omega
        have HF := Lib.hid (And.intro (HB0.out.trans ((HK3.out.trans (show Below W0.heap.size W3 W3.drew from ⟨rfl, rfl, rfl, Nat.le_refl _, fun _ _ => rfl⟩)).mono HB0.out.size)) hbx)
        have HFB := Lib.hid hb
        have HMF := Lib.hid (show WF.heap[M]? = some (.cells #[.int .i64 2, .int .i64 p] 217) from (hoth M hML).trans HM3.out)
        clear hb hbx hoth hML
        refine hK.out _ _ ?_ (fun hHeld => ?_)
        · exact ⟨(cells2p HMF.out).1, (cells2p HMF.out).2.1⟩
        clear hK K
        (try simp only [Act.put, qA, qB, qC])
        refine wpAnyH_take (i := 5) (oi := { dst := some 5, op := Op.assign (Operand.tmp 36), type := 4, pos := "items.go:148", after := #[{ on := 3, ground := Ground.data }, { on := 4, ground := Ground.chain }, { on := 0, ground := Ground.phase }, { on := 1, ground := Ground.phase }, { on := 2, ground := Ground.phase }, { on := 3, ground := Ground.phase }, { on := 4, ground := Ground.phase }], guard := none }) (v := ?vq5_21) rfl (by kernel_rfl) (by kernel_rfl) (by kernel_rfl) (fun _ _ _ h => h) (Or.inl ⟨by rfl, ?hq5_21⟩) (by assumption) ?_
        case hq5_21 => intro w hSw; (try dsimp only at hSw); go_simp; try (with_reducible rfl)
        (try simp only [Act.put, qA, qB, qC])
        refine wpAnyH_done (by kernel_rfl) ?_ _
        obtain ⟨q0, q1, qf, ql⟩ := cells2p HF.out.2
        go_wp2
        refine bodyPost_ret (v := .tuple #[.agg #[.int .i64 2, .int .i64 p], .bool (decide (p ≥ 0))]) (by simp [results, Tryz.results155, go_sem, q0, q1]) rfl ⟨?_, HF.out.1.trans (HFB.out.mono (by have := HN.out; omega))⟩
        exact by rw [show R1 = 2 from HR.out.1.trans (by simp [show ¬ p < 0 by have := HP0.out; omega]), show R2 = p from HR.out.2.trans (by simp [show ¬ p < 0 by have := HP0.out; omega])]
    · have t1 : (k == 2) = false := by simpa using hk2
      have HK2 := Lib.hid hk2
      clear hk2
      obtain ⟨m0, m1, mf, ml⟩ := cells2p HM3.out
      have hxb := (HK3.out.block (N + 1) (blk_lt HX.out.2.1)).trans HX.out.2.1
      obtain ⟨y0, y1, y2, yf, yl⟩ := cells3p hxb
      clear hxb
      go_upto_region 4 with fail
      clear m0 m1 mf ml y0 y1 y2 yf yl t1
      obtain ⟨m0, m1, mf, ml⟩ := cells2p HM3.out
      go_wp2_with fail
      refine wp_region_held_drew (S := (fun w' => w'.cell? ⟨M, 0, none⟩ = some (.int .i64 k) ∧ w'.cell? ⟨M, 1, none⟩ = some (.int .i64 p))) (by kernel_rfl) ?_ (fun hHeld => ?_)
      · exact ⟨m0, m1⟩
      clear m0 m1 mf ml
      refine wpAnyH_take (i := 0) (oi := { dst := some 33, op := Op.load 217 (Operand.tmp 6), type := 217, pos := "items.go:148", after := #[], guard := none }) (v := ?vq0_22) rfl (by kernel_rfl) (by kernel_rfl) (by kernel_rfl) (fun _ _ _ h => h) (Or.inl ⟨by rfl, ?hq0_22⟩) (by assumption) ?_
      case hq0_22 => intro w hSw; (try dsimp only at hSw); go_simp; try (with_reducible rfl)
      (try simp only [Act.put, qA, qB, qC])
      refine wpAnyH_take (i := 1) (oi := { dst := some 34, op := Op.fieldAddr 217 (Operand.tmp 6) 1, type := 0, pos := "items.go:148", after := #[{ on := 4, ground := Ground.gcOnly Departure.lateStores }], guard := none }) (v := ?vq1_23) rfl (by kernel_rfl) (by kernel_rfl) (by kernel_rfl) (fun _ _ _ h => h) (Or.inl ⟨by rfl, ?hq1_23⟩) (by assumption) ?_
      case hq1_23 => intro w hSw; (try dsimp only at hSw); go_simp; try (with_reducible rfl)
      (try simp only [Act.put, qA, qB, qC])
      refine wpAnyH_take (i := 2) (oi := { dst := some 35, op := Op.load 3 (Operand.tmp 34), type := 3, pos := "items.go:148", after := #[{ on := 1, ground := Ground.data }, { on := 4, ground := Ground.gcOnly Departure.lateStores }], guard := none }) (v := ?vq2_24) rfl (by kernel_rfl) (by kernel_rfl) (by kernel_rfl) (fun _ _ _ h => h) (Or.inl ⟨by rfl, ?hq2_24⟩) (by assumption) ?_
      case hq2_24 => intro w hSw; (try dsimp only at hSw); go_simp; try (with_reducible rfl)
      (try simp only [Act.put, qA, qB, qC])
      refine wpAnyH_take (i := 3) (oi := { dst := some 36, op := Op.binOp BinOp.geq 3 (Operand.tmp 35) (Operand.const (Value.int IntKind.i64 0)) 3, type := 4, pos := "items.go:148", after := #[{ on := 2, ground := Ground.data }, { on := 4, ground := Ground.gcOnly Departure.lateStores }], guard := none }) (v := .bool (decide (p ≥ 0))) rfl (by kernel_rfl) (by kernel_rfl) (by kernel_rfl) (fun _ _ _ h => h) (Or.inl ⟨by rfl, ?hq3_25⟩) (by assumption) ?_
      case hq3_25 => intro w hSw; (try dsimp only at hSw); go_simp; try (with_reducible rfl)
      (try simp only [Act.put, qA, qB, qC])
      refine wpAnyH_ready (rs := [4]) (by kernel_rfl) (by simp) ?_
      refine AllReadyH.cons (o := { dst := none, op := Op.store 217 (Operand.tmp 4) (Operand.tmp 33), type := 0, pos := "items.go:148", after := #[{ on := 0, ground := Ground.data }, { on := 0, ground := Ground.phase }, { on := 1, ground := Ground.textOnly Departure.lateStores }, { on := 2, ground := Ground.textOnly Departure.lateStores }, { on := 3, ground := Ground.textOnly Departure.lateStores }], guard := none }) rfl (fun K hK => ?_) AllReadyH.nil
      rw [if_pos (by rfl)]
      refine wp_store_box 217 (.tmp 4) (.tmp 33) rfl (N + 1 + 1) 0 rfl (.agg #[.int .i64 k, .int .i64 p]) rfl [.int .i64 k, .int .i64 p] rfl [.int .i64 0, .int .i64 0] 217 (show W3.drew.heap[N + 1 + 1]? = _ from (HK3.out.block (N + 1 + 1) (blk_lt HX.out.2.2)).trans HX.out.2.2) (Nat.le_refl _) (show (Tryz.prog.info? 217).map (·.size) = some 2 by kernel_rfl) ?cx1 (N + 1 + 1) (Nat.le_refl _) W3.drew (Below.refl _ _) ?_
      try case cx1 => first | exact ⟨rfl, rfl⟩ | (intro v hv; simp at hv; first | (rcases hv with rfl | rfl <;> rfl) | (subst hv; rfl))
      intro WF hb hbx hoth
      have hML : M ≠ N + 1 + 1 := fun e => by have h1 := HML.out; have h2 := blk_lt HX.out.2.2; omega
      have HF := Lib.hid (And.intro (HB0.out.trans ((HK3.out.trans (show Below W0.heap.size W3 W3.drew from ⟨rfl, rfl, rfl, Nat.le_refl _, fun _ _ => rfl⟩)).mono HB0.out.size)) hbx)
      have HFB := Lib.hid hb
      have HMF := Lib.hid (show WF.heap[M]? = some (.cells #[.int .i64 k, .int .i64 p] 217) from (hoth M hML).trans HM3.out)
      clear hb hbx hoth hML
      refine hK.out _ _ ?_ (fun hHeld => ?_)
      · exact ⟨(cells2p HMF.out).1, (cells2p HMF.out).2.1⟩
      clear hK K
      (try simp only [Act.put, qA, qB, qC])
      refine wpAnyH_take (i := 5) (oi := { dst := some 5, op := Op.assign (Operand.tmp 36), type := 4, pos := "items.go:148", after := #[{ on := 3, ground := Ground.data }, { on := 4, ground := Ground.chain }, { on := 0, ground := Ground.phase }, { on := 1, ground := Ground.phase }, { on := 2, ground := Ground.phase }, { on := 3, ground := Ground.phase }, { on := 4, ground := Ground.phase }], guard := none }) (v := ?vq5_26) rfl (by kernel_rfl) (by kernel_rfl) (by kernel_rfl) (fun _ _ _ h => h) (Or.inl ⟨by rfl, ?hq5_26⟩) (by assumption) ?_
      case hq5_26 => intro w hSw; (try dsimp only at hSw); go_simp; try (with_reducible rfl)
      (try simp only [Act.put, qA, qB, qC])
      refine wpAnyH_done (by kernel_rfl) ?_ _
      obtain ⟨q0, q1, qf, ql⟩ := cells2p HF.out.2
      go_wp2
      refine bodyPost_ret (v := .tuple #[.agg #[.int .i64 k, .int .i64 p], .bool (decide (p ≥ 0))]) (by simp [results, Tryz.results155, go_sem, q0, q1]) rfl ⟨?_, HF.out.1.trans (HFB.out.mono (by have := HN.out; omega))⟩
      exact by rw [show R1 = k from HR.out.1.trans (by simp [HK2.out]), show R2 = p from HR.out.2.trans (by simp [HK2.out])]
  · go_simp
    obtain ⟨M, hM⟩ : ∃ M, M = W0.heap.size := ⟨_, rfl⟩
    obtain ⟨W1, hW1⟩ : ∃ W, W = (W0.alloc (.cells #[.int .i64 0, .int .i64 0] 217)).drew := ⟨_, rfl⟩
    rw [← hW1]
    have HM1 := Lib.hid (show W1.heap[M]? = some (.cells #[.int .i64 0, .int .i64 0] 217) ∧ W0.heap.size ≤ M ∧ Below W0.heap.size W0 W1 from ⟨by rw [hW1, hM]; exact heap_alloc_new W0 _, Nat.le_of_eq hM.symm, by rw [hW1]; exact (alloc_below W0 (.cells #[.int .i64 0, .int .i64 0] 217)).trans ⟨rfl, rfl, rfl, Nat.le_refl _, fun _ _ => rfl⟩⟩)
    try simp only [← hM]
    clear hM hW1
    refine hK.out _ _ ?_ (fun hHeld => ?_)
    · exact ⟨(World.cell?_of_block (HM1.out.2.2.block N (blk_lt HX.out.1))).trans (cells4p HX.out.1).2.2.2.1, (World.cell?_of_block (HM1.out.2.2.block (N + 1) (blk_lt HX.out.2.1))).trans (cells3p HX.out.2.1).1, (World.cell?_of_block (HM1.out.2.2.block (N + 1) (blk_lt HX.out.2.1))).trans (cells3p HX.out.2.1).2.1⟩
    clear hK K
    (try simp only [Act.put, qA, qB, qC])
    refine wpAnyH_ready (rs := [9]) (by kernel_rfl) (by simp) ?_
    refine AllReadyH.cons (o := { dst := some 16, op := Op.call { callee := Callee.value (Operand.tmp 10), args := #[Operand.tmp 15], argTypes := #[197] }, type := 3, pos := "items.go:144", after := #[{ on := 3, ground := Ground.data }, { on := 8, ground := Ground.data }], guard := none }) rfl (fun K hK => ?_) AllReadyH.nil
    go_simp
    refine (HP.out _ (HB0.out.trans (HM1.out.2.2.mono HB0.out.size))).mono ?_
    rintro e W2 ⟨rfl, hb1⟩
    have HM := Lib.hid (show W2.heap[M]? = some (.cells #[.int .i64 0, .int .i64 0] 217) ∧ W0.heap.size ≤ M ∧ Below W0.heap.size W0 W2 from ⟨(hb1.block M (blk_lt HM1.out.1)).trans HM1.out.1, HM1.out.2.1, HM1.out.2.2.trans (hb1.mono HM1.out.2.2.size)⟩)
    clear hb1 HM1
    refine hK.out _ _ ?_ (fun hHeld => ?_)
    · exact ⟨(World.cell?_of_block (HM.out.2.2.block N (blk_lt HX.out.1))).trans (cells4p HX.out.1).2.2.2.1, (World.cell?_of_block (HM.out.2.2.block (N + 1) (blk_lt HX.out.2.1))).trans (cells3p HX.out.2.1).1, (World.cell?_of_block (HM.out.2.2.block (N + 1) (blk_lt HX.out.2.1))).trans (cells3p HX.out.2.1).2.1⟩
    clear hK K
    (try simp only [Act.put, qA, qB, qC])
    refine wpAnyH_take (i := 10) (oi := { dst := some 17, op := Op.build 217 #[(0, Operand.tmp 8), (1, Operand.tmp 16)], type := 217, pos := "items.go:144", after := #[{ on := 1, ground := Ground.data }, { on := 9, ground := Ground.data }], guard := none }) (v := ?vq10_11) rfl (by kernel_rfl) (by kernel_rfl) (by kernel_rfl) (fun _ _ _ h => h) (Or.inl ⟨by rfl, ?hq10_11⟩) (by assumption) ?_
    case hq10_11 => intro w hSw; (try dsimp only at hSw); go_simp; try (with_reducible rfl)
    (try simp only [Act.put, qA, qB, qC])
    refine wpAnyH_ready (rs := [12]) (by kernel_rfl) (by simp) ?_
    refine AllReadyH.cons (o := { dst := none, op := Op.store 217 (Operand.tmp 6) (Operand.tmp 17), type := 0, pos := "items.go:144", after := #[{ on := 11, ground := Ground.data }, { on := 10, ground := Ground.data }, { on := 9, ground := Ground.chain }, { on := 0, ground := Ground.phase }, { on := 1, ground := Ground.phase }, { on := 2, ground := Ground.phase }, { on := 3, ground := Ground.phase }, { on := 4, ground := Ground.phase }, { on := 5, ground := Ground.phase }, { on := 6, ground := Ground.phase }, { on := 7, ground := Ground.phase }, { on := 8, ground := Ground.phase }, { on := 9, ground := Ground.phase }, { on := 10, ground := Ground.phase }, { on := 11, ground := Ground.phase }], guard := none }) rfl (fun K hK => ?_) AllReadyH.nil
    rw [if_pos (by rfl)]
    refine wp_store_box 217 (.tmp 6) (.tmp 17) rfl M 0 rfl (.agg #[.int .i64 k, .int .i64 p]) rfl [.int .i64 k, .int .i64 p] rfl [.int .i64 0, .int .i64 0] 217 HM.out.1 (Nat.le_refl _) (show (Tryz.prog.info? 217).map (·.size) = some 2 by kernel_rfl) ?cx1 M (Nat.le_refl _) W2 (Below.refl _ _) ?_
    try case cx1 => first | exact ⟨rfl, rfl⟩ | (intro v hv; simp at hv; first | (rcases hv with rfl | rfl <;> rfl) | (subst hv; rfl))
    intro W3 hb hbx hoth
    have HK3 := Lib.hid (show Below W0.heap.size W0 W3 from HM.out.2.2.trans (hb.mono HM.out.2.1))
    have HM3 := Lib.hid (show W3.heap[M]? = some (.cells #[.int .i64 k, .int .i64 p] 217) from hbx)
    have HML := Lib.hid HM.out.2.1
    clear hb hbx hoth HM
    refine hK.out _ _ ?_ (fun hHeld => ?_)
    · exact ⟨(World.cell?_of_block (HK3.out.block N (blk_lt HX.out.1))).trans (cells4p HX.out.1).2.2.2.1, (World.cell?_of_block (HK3.out.block (N + 1) (blk_lt HX.out.2.1))).trans (cells3p HX.out.2.1).1, (World.cell?_of_block (HK3.out.block (N + 1) (blk_lt HX.out.2.1))).trans (cells3p HX.out.2.1).2.1⟩
    clear hK K
    (try simp only [Act.put, qA, qB, qC])
    refine wpAnyH_done (by kernel_rfl) ?_ _
    by_cases hk2 : k = 2
    · subst hk2
      by_cases hp0 : p < 0
      · have t1 : decide (p < 0) = true := by simpa using hp0
        have HP0 := Lib.hid hp0
        clear hp0
        obtain ⟨m0, m1, mf, ml⟩ := cells2p HM3.out
        have hxa := (HK3.out.block N (blk_lt HX.out.1)).trans HX.out.1
        have hxb := (HK3.out.block (N + 1) (blk_lt HX.out.2.1)).trans HX.out.2.1
        obtain ⟨z0, z1, z2, z3, zf, zl⟩ := cells4p hxa
        obtain ⟨y0, y1, y2, yf, yl⟩ := cells3p hxb
        clear hxa hxb
        go_wp2_with (first
          | (go_loud (go_at_call 135; refine (HQ.out W3 (HB0.out.trans (HK3.out.mono HB0.out.size))).mono ?_; rintro e W4 ⟨rfl, hb1⟩; have HK4 := Lib.hid (HK3.out.trans (hb1.mono HK3.out.size)); have HM4 := Lib.hid ((hb1.block M (blk_lt HM3.out)).trans HM3.out); clear hb1))
          | (go_loud (refine wpList_store_box rfl 217 (.tmp 6) (.tmp 32) rfl M 0 rfl (.agg #[.int .i64 3, .int .i64 q]) rfl [.int .i64 3, .int .i64 q] rfl [.int .i64 2, .int .i64 p] 217 HM4.out (Nat.le_refl _) (show (Tryz.prog.info? 217).map (·.size) = some 2 by kernel_rfl) ?cx1 M (Nat.le_refl _) W4 (Below.refl _ _) ?_)))
        try case cx1 => first | exact ⟨rfl, rfl⟩ | (intro v hv; simp at hv; first | (rcases hv with rfl | rfl <;> rfl) | (subst hv; rfl))
        intro W5 hb hbx hoth
        have HK5 := Lib.hid (show Below W0.heap.size W0 W5 from HK4.out.trans (hb.mono HML.out))
        have HM5 := Lib.hid (show W5.heap[M]? = some (.cells #[.int .i64 3, .int .i64 q] 217) from hbx)
        clear hb hbx hoth m0 m1 mf ml z0 z1 z2 z3 zf zl y0 y1 y2 yf yl t1
        obtain ⟨m0, m1, mf, ml⟩ := cells2p HM5.out
        go_wp2_with fail
        refine wp_region_held_drew (S := (fun w' => w'.cell? ⟨M, 0, none⟩ = some (.int .i64 3) ∧ w'.cell? ⟨M, 1, none⟩ = some (.int .i64 q))) (by kernel_rfl) ?_ (fun hHeld => ?_)
        · exact ⟨m0, m1⟩
        clear m0 m1 mf ml
        refine wpAnyH_take (i := 0) (oi := { dst := some 33, op := Op.load 217 (Operand.tmp 6), type := 217, pos := "items.go:148", after := #[], guard := none }) (v := ?vq0_27) rfl (by kernel_rfl) (by kernel_rfl) (by kernel_rfl) (fun _ _ _ h => h) (Or.inl ⟨by rfl, ?hq0_27⟩) (by assumption) ?_
        case hq0_27 => intro w hSw; (try dsimp only at hSw); go_simp; try (with_reducible rfl)
        (try simp only [Act.put, qA, qB, qC])
        refine wpAnyH_take (i := 1) (oi := { dst := some 34, op := Op.fieldAddr 217 (Operand.tmp 6) 1, type := 0, pos := "items.go:148", after := #[{ on := 4, ground := Ground.gcOnly Departure.lateStores }], guard := none }) (v := ?vq1_28) rfl (by kernel_rfl) (by kernel_rfl) (by kernel_rfl) (fun _ _ _ h => h) (Or.inl ⟨by rfl, ?hq1_28⟩) (by assumption) ?_
        case hq1_28 => intro w hSw; (try dsimp only at hSw); go_simp; try (with_reducible rfl)
        (try simp only [Act.put, qA, qB, qC])
        refine wpAnyH_take (i := 2) (oi := { dst := some 35, op := Op.load 3 (Operand.tmp 34), type := 3, pos := "items.go:148", after := #[{ on := 1, ground := Ground.data }, { on := 4, ground := Ground.gcOnly Departure.lateStores }], guard := none }) (v := ?vq2_29) rfl (by kernel_rfl) (by kernel_rfl) (by kernel_rfl) (fun _ _ _ h => h) (Or.inl ⟨by rfl, ?hq2_29⟩) (by assumption) ?_
        case hq2_29 => intro w hSw; (try dsimp only at hSw); go_simp; try (with_reducible rfl)
        (try simp only [Act.put, qA, qB, qC])
        refine wpAnyH_take (i := 3) (oi := { dst := some 36, op := Op.binOp BinOp.geq 3 (Operand.tmp 35) (Operand.const (Value.int IntKind.i64 0)) 3, type := 4, pos := "items.go:148", after := #[{ on := 2, ground := Ground.data }, { on := 4, ground := Ground.gcOnly Departure.lateStores }], guard := none }) (v := .bool (decide (q ≥ 0))) rfl (by kernel_rfl) (by kernel_rfl) (by kernel_rfl) (fun _ _ _ h => h) (Or.inl ⟨by rfl, ?hq3_30⟩) (by assumption) ?_
        case hq3_30 => intro w hSw; (try dsimp only at hSw); go_simp; try (with_reducible rfl)
        (try simp only [Act.put, qA, qB, qC])
        refine wpAnyH_ready (rs := [4]) (by kernel_rfl) (by simp) ?_
        refine AllReadyH.cons (o := { dst := none, op := Op.store 217 (Operand.tmp 4) (Operand.tmp 33), type := 0, pos := "items.go:148", after := #[{ on := 0, ground := Ground.data }, { on := 0, ground := Ground.phase }, { on := 1, ground := Ground.textOnly Departure.lateStores }, { on := 2, ground := Ground.textOnly Departure.lateStores }, { on := 3, ground := Ground.textOnly Departure.lateStores }], guard := none }) rfl (fun K hK => ?_) AllReadyH.nil
        rw [if_pos (by rfl)]
        refine wp_store_box 217 (.tmp 4) (.tmp 33) rfl (N + 1 + 1) 0 rfl (.agg #[.int .i64 3, .int .i64 q]) rfl [.int .i64 3, .int .i64 q] rfl [.int .i64 0, .int .i64 0] 217 (show W5.drew.heap[N + 1 + 1]? = _ from (HK5.out.block (N + 1 + 1) (blk_lt HX.out.2.2)).trans HX.out.2.2) (Nat.le_refl _) (show (Tryz.prog.info? 217).map (·.size) = some 2 by kernel_rfl) ?cx1 (N + 1 + 1) (Nat.le_refl _) W5.drew (Below.refl _ _) ?_
        try case cx1 => first | exact ⟨rfl, rfl⟩ | (intro v hv; simp at hv; first | (rcases hv with rfl | rfl <;> rfl) | (subst hv; rfl))
        intro WF hb hbx hoth
        have hML : M ≠ N + 1 + 1 := fun e => by have h1 := HML.out; have h2 := blk_lt HX.out.2.2; omega
        have HF := Lib.hid (And.intro (HB0.out.trans ((HK5.out.trans (show Below W0.heap.size W5 W5.drew from ⟨rfl, rfl, rfl, Nat.le_refl _, fun _ _ => rfl⟩)).mono HB0.out.size)) hbx)
        have HFB := Lib.hid hb
        have HMF := Lib.hid (show WF.heap[M]? = some (.cells #[.int .i64 3, .int .i64 q] 217) from (hoth M hML).trans HM5.out)
        clear hb hbx hoth hML
        refine hK.out _ _ ?_ (fun hHeld => ?_)
        · exact ⟨(cells2p HMF.out).1, (cells2p HMF.out).2.1⟩
        clear hK K
        (try simp only [Act.put, qA, qB, qC])
        refine wpAnyH_take (i := 5) (oi := { dst := some 5, op := Op.assign (Operand.tmp 36), type := 4, pos := "items.go:148", after := #[{ on := 3, ground := Ground.data }, { on := 4, ground := Ground.chain }, { on := 0, ground := Ground.phase }, { on := 1, ground := Ground.phase }, { on := 2, ground := Ground.phase }, { on := 3, ground := Ground.phase }, { on := 4, ground := Ground.phase }], guard := none }) (v := ?vq5_31) rfl (by kernel_rfl) (by kernel_rfl) (by kernel_rfl) (fun _ _ _ h => h) (Or.inl ⟨by rfl, ?hq5_31⟩) (by assumption) ?_
        case hq5_31 => intro w hSw; (try dsimp only at hSw); go_simp; try (with_reducible rfl)
        (try simp only [Act.put, qA, qB, qC])
        refine wpAnyH_done (by kernel_rfl) ?_ _
        obtain ⟨q0, q1, qf, ql⟩ := cells2p HF.out.2
        go_wp2
        refine bodyPost_ret (v := .tuple #[.agg #[.int .i64 3, .int .i64 q], .bool (decide (q ≥ 0))]) (by simp [results, Tryz.results155, go_sem, q0, q1]) rfl ⟨?_, HF.out.1.trans (HFB.out.mono (by have := HN.out; omega))⟩
        exact by rw [show R1 = 3 from HR.out.1.trans (by simp [show p < 0 by have := HP0.out; omega]), show R2 = q from HR.out.2.trans (by simp [show p < 0 by have := HP0.out; omega])]
      · have t1 : decide (p < 0) = false := by simpa using hp0
        have HP0 := Lib.hid hp0
        clear hp0
        obtain ⟨m0, m1, mf, ml⟩ := cells2p HM3.out
        have hxb := (HK3.out.block (N + 1) (blk_lt HX.out.2.1)).trans HX.out.2.1
        obtain ⟨y0, y1, y2, yf, yl⟩ := cells3p hxb
        clear hxb
        go_upto_region 4 with fail
        clear m0 m1 mf ml y0 y1 y2 yf yl t1
        obtain ⟨m0, m1, mf, ml⟩ := cells2p HM3.out
        go_wp2_with fail
        refine wp_region_held_drew (S := (fun w' => w'.cell? ⟨M, 0, none⟩ = some (.int .i64 2) ∧ w'.cell? ⟨M, 1, none⟩ = some (.int .i64 p))) (by kernel_rfl) ?_ (fun hHeld => ?_)
        · exact ⟨m0, m1⟩
        clear m0 m1 mf ml
        refine wpAnyH_take (i := 0) (oi := { dst := some 33, op := Op.load 217 (Operand.tmp 6), type := 217, pos := "items.go:148", after := #[], guard := none }) (v := ?vq0_32) rfl (by kernel_rfl) (by kernel_rfl) (by kernel_rfl) (fun _ _ _ h => h) (Or.inl ⟨by rfl, ?hq0_32⟩) (by assumption) ?_
        case hq0_32 => intro w hSw; (try dsimp only at hSw); go_simp; try (with_reducible rfl)
        (try simp only [Act.put, qA, qB, qC])
        refine wpAnyH_take (i := 1) (oi := { dst := some 34, op := Op.fieldAddr 217 (Operand.tmp 6) 1, type := 0, pos := "items.go:148", after := #[{ on := 4, ground := Ground.gcOnly Departure.lateStores }], guard := none }) (v := ?vq1_33) rfl (by kernel_rfl) (by kernel_rfl) (by kernel_rfl) (fun _ _ _ h => h) (Or.inl ⟨by rfl, ?hq1_33⟩) (by assumption) ?_
        case hq1_33 => intro w hSw; (try dsimp only at hSw); go_simp; try (with_reducible rfl)
        (try simp only [Act.put, qA, qB, qC])
        refine wpAnyH_take (i := 2) (oi := { dst := some 35, op := Op.load 3 (Operand.tmp 34), type := 3, pos := "items.go:148", after := #[{ on := 1, ground := Ground.data }, { on := 4, ground := Ground.gcOnly Departure.lateStores }], guard := none }) (v := ?vq2_34) rfl (by kernel_rfl) (by kernel_rfl) (by kernel_rfl) (fun _ _ _ h => h) (Or.inl ⟨by rfl, ?hq2_34⟩) (by assumption) ?_
        case hq2_34 => intro w hSw; (try dsimp only at hSw); go_simp; try (with_reducible rfl)
        (try simp only [Act.put, qA, qB, qC])
        refine wpAnyH_take (i := 3) (oi := { dst := some 36, op := Op.binOp BinOp.geq 3 (Operand.tmp 35) (Operand.const (Value.int IntKind.i64 0)) 3, type := 4, pos := "items.go:148", after := #[{ on := 2, ground := Ground.data }, { on := 4, ground := Ground.gcOnly Departure.lateStores }], guard := none }) (v := .bool (decide (p ≥ 0))) rfl (by kernel_rfl) (by kernel_rfl) (by kernel_rfl) (fun _ _ _ h => h) (Or.inl ⟨by rfl, ?hq3_35⟩) (by assumption) ?_
        case hq3_35 => intro w hSw; (try dsimp only at hSw); go_simp; try (with_reducible rfl)
        (try simp only [Act.put, qA, qB, qC])
        refine wpAnyH_ready (rs := [4]) (by kernel_rfl) (by simp) ?_
        refine AllReadyH.cons (o := { dst := none, op := Op.store 217 (Operand.tmp 4) (Operand.tmp 33), type := 0, pos := "items.go:148", after := #[{ on := 0, ground := Ground.data }, { on := 0, ground := Ground.phase }, { on := 1, ground := Ground.textOnly Departure.lateStores }, { on := 2, ground := Ground.textOnly Departure.lateStores }, { on := 3, ground := Ground.textOnly Departure.lateStores }], guard := none }) rfl (fun K hK => ?_) AllReadyH.nil
        rw [if_pos (by rfl)]
        refine wp_store_box 217 (.tmp 4) (.tmp 33) rfl (N + 1 + 1) 0 rfl (.agg #[.int .i64 2, .int .i64 p]) rfl [.int .i64 2, .int .i64 p] rfl [.int .i64 0, .int .i64 0] 217 (show W3.drew.heap[N + 1 + 1]? = _ from (HK3.out.block (N + 1 + 1) (blk_lt HX.out.2.2)).trans HX.out.2.2) (Nat.le_refl _) (show (Tryz.prog.info? 217).map (·.size) = some 2 by kernel_rfl) ?cx1 (N + 1 + 1) (Nat.le_refl _) W3.drew (Below.refl _ _) ?_
        try case cx1 => first | exact ⟨rfl, rfl⟩ | (intro v hv; simp at hv; first | (rcases hv with rfl | rfl <;> rfl) | (subst hv; rfl))
        intro WF hb hbx hoth
        have hML : M ≠ N + 1 + 1 := fun e => by have h1 := HML.out; have h2 := blk_lt HX.out.2.2; omega
        have HF := Lib.hid (And.intro (HB0.out.trans ((HK3.out.trans (show Below W0.heap.size W3 W3.drew from ⟨rfl, rfl, rfl, Nat.le_refl _, fun _ _ => rfl⟩)).mono HB0.out.size)) hbx)
        have HFB := Lib.hid hb
        have HMF := Lib.hid (show WF.heap[M]? = some (.cells #[.int .i64 2, .int .i64 p] 217) from (hoth M hML).trans HM3.out)
        clear hb hbx hoth hML
        refine hK.out _ _ ?_ (fun hHeld => ?_)
        · exact ⟨(cells2p HMF.out).1, (cells2p HMF.out).2.1⟩
        clear hK K
        (try simp only [Act.put, qA, qB, qC])
        refine wpAnyH_take (i := 5) (oi := { dst := some 5, op := Op.assign (Operand.tmp 36), type := 4, pos := "items.go:148", after := #[{ on := 3, ground := Ground.data }, { on := 4, ground := Ground.chain }, { on := 0, ground := Ground.phase }, { on := 1, ground := Ground.phase }, { on := 2, ground := Ground.phase }, { on := 3, ground := Ground.phase }, { on := 4, ground := Ground.phase }], guard := none }) (v := ?vq5_36) rfl (by kernel_rfl) (by kernel_rfl) (by kernel_rfl) (fun _ _ _ h => h) (Or.inl ⟨by rfl, ?hq5_36⟩) (by assumption) ?_
        case hq5_36 => intro w hSw; (try dsimp only at hSw); go_simp; try (with_reducible rfl)
        (try simp only [Act.put, qA, qB, qC])
        refine wpAnyH_done (by kernel_rfl) ?_ _
        obtain ⟨q0, q1, qf, ql⟩ := cells2p HF.out.2
        go_wp2
        refine bodyPost_ret (v := .tuple #[.agg #[.int .i64 2, .int .i64 p], .bool (decide (p ≥ 0))]) (by simp [results, Tryz.results155, go_sem, q0, q1]) rfl ⟨?_, HF.out.1.trans (HFB.out.mono (by have := HN.out; omega))⟩
        exact by rw [show R1 = 2 from HR.out.1.trans (by simp [show ¬ p < 0 by have := HP0.out; omega]), show R2 = p from HR.out.2.trans (by simp [show ¬ p < 0 by have := HP0.out; omega])]
    · have t1 : (k == 2) = false := by simpa using hk2
      have HK2 := Lib.hid hk2
      clear hk2
      obtain ⟨m0, m1, mf, ml⟩ := cells2p HM3.out
      have hxb := (HK3.out.block (N + 1) (blk_lt HX.out.2.1)).trans HX.out.2.1
      obtain ⟨y0, y1, y2, yf, yl⟩ := cells3p hxb
      clear hxb
      go_upto_region 4 with fail
      clear m0 m1 mf ml y0 y1 y2 yf yl t1
      obtain ⟨m0, m1, mf, ml⟩ := cells2p HM3.out
      go_wp2_with fail
      refine wp_region_held_drew (S := (fun w' => w'.cell? ⟨M, 0, none⟩ = some (.int .i64 k) ∧ w'.cell? ⟨M, 1, none⟩ = some (.int .i64 p))) (by kernel_rfl) ?_ (fun hHeld => ?_)
      · exact ⟨m0, m1⟩
      clear m0 m1 mf ml
      refine wpAnyH_take (i := 0) (oi := { dst := some 33, op := Op.load 217 (Operand.tmp 6), type := 217, pos := "items.go:148", after := #[], guard := none }) (v := ?vq0_37) rfl (by kernel_rfl) (by kernel_rfl) (by kernel_rfl) (fun _ _ _ h => h) (Or.inl ⟨by rfl, ?hq0_37⟩) (by assumption) ?_
      case hq0_37 => intro w hSw; (try dsimp only at hSw); go_simp; try (with_reducible rfl)
      (try simp only [Act.put, qA, qB, qC])
      refine wpAnyH_take (i := 1) (oi := { dst := some 34, op := Op.fieldAddr 217 (Operand.tmp 6) 1, type := 0, pos := "items.go:148", after := #[{ on := 4, ground := Ground.gcOnly Departure.lateStores }], guard := none }) (v := ?vq1_38) rfl (by kernel_rfl) (by kernel_rfl) (by kernel_rfl) (fun _ _ _ h => h) (Or.inl ⟨by rfl, ?hq1_38⟩) (by assumption) ?_
      case hq1_38 => intro w hSw; (try dsimp only at hSw); go_simp; try (with_reducible rfl)
      (try simp only [Act.put, qA, qB, qC])
      refine wpAnyH_take (i := 2) (oi := { dst := some 35, op := Op.load 3 (Operand.tmp 34), type := 3, pos := "items.go:148", after := #[{ on := 1, ground := Ground.data }, { on := 4, ground := Ground.gcOnly Departure.lateStores }], guard := none }) (v := ?vq2_39) rfl (by kernel_rfl) (by kernel_rfl) (by kernel_rfl) (fun _ _ _ h => h) (Or.inl ⟨by rfl, ?hq2_39⟩) (by assumption) ?_
      case hq2_39 => intro w hSw; (try dsimp only at hSw); go_simp; try (with_reducible rfl)
      (try simp only [Act.put, qA, qB, qC])
      refine wpAnyH_take (i := 3) (oi := { dst := some 36, op := Op.binOp BinOp.geq 3 (Operand.tmp 35) (Operand.const (Value.int IntKind.i64 0)) 3, type := 4, pos := "items.go:148", after := #[{ on := 2, ground := Ground.data }, { on := 4, ground := Ground.gcOnly Departure.lateStores }], guard := none }) (v := .bool (decide (p ≥ 0))) rfl (by kernel_rfl) (by kernel_rfl) (by kernel_rfl) (fun _ _ _ h => h) (Or.inl ⟨by rfl, ?hq3_40⟩) (by assumption) ?_
      case hq3_40 => intro w hSw; (try dsimp only at hSw); go_simp; try (with_reducible rfl)
      (try simp only [Act.put, qA, qB, qC])
      refine wpAnyH_ready (rs := [4]) (by kernel_rfl) (by simp) ?_
      refine AllReadyH.cons (o := { dst := none, op := Op.store 217 (Operand.tmp 4) (Operand.tmp 33), type := 0, pos := "items.go:148", after := #[{ on := 0, ground := Ground.data }, { on := 0, ground := Ground.phase }, { on := 1, ground := Ground.textOnly Departure.lateStores }, { on := 2, ground := Ground.textOnly Departure.lateStores }, { on := 3, ground := Ground.textOnly Departure.lateStores }], guard := none }) rfl (fun K hK => ?_) AllReadyH.nil
      rw [if_pos (by rfl)]
      refine wp_store_box 217 (.tmp 4) (.tmp 33) rfl (N + 1 + 1) 0 rfl (.agg #[.int .i64 k, .int .i64 p]) rfl [.int .i64 k, .int .i64 p] rfl [.int .i64 0, .int .i64 0] 217 (show W3.drew.heap[N + 1 + 1]? = _ from (HK3.out.block (N + 1 + 1) (blk_lt HX.out.2.2)).trans HX.out.2.2) (Nat.le_refl _) (show (Tryz.prog.info? 217).map (·.size) = some 2 by kernel_rfl) ?cx1 (N + 1 + 1) (Nat.le_refl _) W3.drew (Below.refl _ _) ?_
      try case cx1 => first | exact ⟨rfl, rfl⟩ | (intro v hv; simp at hv; first | (rcases hv with rfl | rfl <;> rfl) | (subst hv; rfl))
      intro WF hb hbx hoth
      have hML : M ≠ N + 1 + 1 := fun e => by have h1 := HML.out; have h2 := blk_lt HX.out.2.2; omega
      have HF := Lib.hid (And.intro (HB0.out.trans ((HK3.out.trans (show Below W0.heap.size W3 W3.drew from ⟨rfl, rfl, rfl, Nat.le_refl _, fun _ _ => rfl⟩)).mono HB0.out.size)) hbx)
      have HFB := Lib.hid hb
      have HMF := Lib.hid (show WF.heap[M]? = some (.cells #[.int .i64 k, .int .i64 p] 217) from (hoth M hML).trans HM3.out)
      clear hb hbx hoth hML
      refine hK.out _ _ ?_ (fun hHeld => ?_)
      · exact ⟨(cells2p HMF.out).1, (cells2p HMF.out).2.1⟩
      clear hK K
      (try simp only [Act.put, qA, qB, qC])
      refine wpAnyH_take (i := 5) (oi := { dst := some 5, op := Op.assign (Operand.tmp 36), type := 4, pos := "items.go:148", after := #[{ on := 3, ground := Ground.data }, { on := 4, ground := Ground.chain }, { on := 0, ground := Ground.phase }, { on := 1, ground := Ground.phase }, { on := 2, ground := Ground.phase }, { on := 3, ground := Ground.phase }, { on := 4, ground := Ground.phase }], guard := none }) (v := ?vq5_41) rfl (by kernel_rfl) (by kernel_rfl) (by kernel_rfl) (fun _ _ _ h => h) (Or.inl ⟨by rfl, ?hq5_41⟩) (by assumption) ?_
      case hq5_41 => intro w hSw; (try dsimp only at hSw); go_simp; try (with_reducible rfl)
      (try simp only [Act.put, qA, qB, qC])
      refine wpAnyH_done (by kernel_rfl) ?_ _
      obtain ⟨q0, q1, qf, ql⟩ := cells2p HF.out.2
      go_wp2
      refine bodyPost_ret (v := .tuple #[.agg #[.int .i64 k, .int .i64 p], .bool (decide (p ≥ 0))]) (by simp [results, Tryz.results155, go_sem, q0, q1]) rfl ⟨?_, HF.out.1.trans (HFB.out.mono (by have := HN.out; omega))⟩
      exact by rw [show R1 = k from HR.out.1.trans (by simp [HK2.out]), show R2 = p from HR.out.2.trans (by simp [HK2.out])]

end Go.Proofs.YtghkbihgdabamaaGreatDoor
