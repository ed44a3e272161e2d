/-
  What a step from a type that is no address comes to. Conditions: the view, its source and the type lie in the heap; types are not too large.
-/
import Derived.Test.YtghkbihgdabamaaGreatDoorKQIntoA
namespace Go.Proofs.YtghkbihgdabamaaGreatDoor
open Go.RowKit

theorem cells7 {w : World} {v : Nat} {a0 a1 a2 a3 a4 a5 a6 : Value} {T : TypeId} (h : w.heap[v]? = some (.cells #[a0, a1, a2, a3, a4, a5, a6] T)) : w.cell? ⟨v, 0, none⟩ = some a0 ∧ w.cell? ⟨v, 1, none⟩ = some a1 ∧ w.cell? ⟨v, 2, none⟩ = some a2 ∧ w.cell? ⟨v, 3, none⟩ = some a3 ∧ w.cell? ⟨v, 4, none⟩ = some a4 ∧ w.cell? ⟨v, 5, none⟩ = some a5 ∧ w.cell? ⟨v, 6, none⟩ = some a6 ∧ v < w.heap.size :=
  ⟨block_cell (L := [a0, a1, a2, a3, a4, a5, a6]) h rfl, block_cell (L := [a0, a1, a2, a3, a4, a5, a6]) h rfl, block_cell (L := [a0, a1, a2, a3, a4, a5, a6]) h rfl, block_cell (L := [a0, a1, a2, a3, a4, a5, a6]) h rfl, block_cell (L := [a0, a1, a2, a3, a4, a5, a6]) h rfl, block_cell (L := [a0, a1, a2, a3, a4, a5, a6]) h rfl, block_cell (L := [a0, a1, a2, a3, a4, a5, a6]) h rfl, (Array.getElem?_eq_some_iff.1 h).1⟩
theorem plB_at {α : Type} {l : List α} {z : Int} (h : plB z l.length = true) : ∃ (j : Nat) (x : α), z = j ∧ j < l.length ∧ l[j]? = some x := by
  unfold plB at h
  simp only [Bool.and_eq_true, decide_eq_true_eq] at h
  exact ⟨z.toNat, l[z.toNat]'(by omega), by omega, by omega, List.getElem?_eq_getElem (by omega)⟩
theorem su_at (s : So5) (nm : ByteArray) : suAt s nm = -1 ∨ ∃ (i : Nat) (x : Su5), suAt s nm = (i : Int) ∧ s.structs[i]? = some x := by
  rcases fiO_spec (g := fun x : Su5 => nmB x.nm nm) s.structs 0 with ⟨h, _⟩ | ⟨i, x, h1, _, h3, _⟩
  · exact .inl h
  · exact .inr ⟨i, x, by rw [suAt, h3, Nat.zero_add], h1⟩
set_option maxRecDepth 100000 in
set_option maxHeartbeats 40000000 in
theorem into_nostr (n m : Nat) (s : So5) (b : Bo) (v : Nat) (k : Int) (nm : ByteArray) (h : Hd) (l : List Ty5) (step : Int) (w : World) (hs : SoH n w s) (hsn : SoN s) (hv : ViewAt w v s b) (ha : addrB (.mk k nm h l) = false) (kf : Nat → Bool) (hkf : ∀ b, w.heap.size ≤ b → kf b = true) (hk : k ≠ 2) :
    Calls Tryz.prog 49 #[.pointer (some ⟨v, 0, none⟩), tyV (.mk k nm h l), .int .i64 step] w fun e w' => Below w.heap.size w w' ∧ ∃ y ok, e = .returned (.tuple #[tyV y, .bool ok]) ∧ intoR s n (.mk k nm h l) step = (if ok then some (erTy y) else none) ∧ ∃ f, TyH f (ebp w' kf) y := by
  have hir : intoR s n (.mk k nm h l) step = none := by
    simp only [intoR]
    rw [if_neg (by rw [ha]; decide), if_pos hk]
  have HIR := Lib.hid hir
  have e2 : (k != 2) = true := by simpa using hk
  have hai := fun W => isAddress_any (.mk k nm h l) W
  rw [ha] at hai
  have hst : ∀ W, Below w.heap.size w W → Calls Tryz.prog 82 #[soV s, .string nm] W fun e w' => e = .returned (.int .i64 (suAt s nm)) ∧ Below W.heap.size W w' := fun W hW => SuOf_any n s nm W (SoH.below hs hW)
  obtain ⟨W0, hW⟩ : ∃ W, W = (w.alloc (.cells #[.int .i64 k, .string nm, .slice h.oa l.length h.cap] 46)).alloc (.cells #[.int .i64 0, .string ⟨#[]⟩, .slice none 0 0] 46) := ⟨_, rfl⟩
  obtain ⟨hb0, hx0, hx1⟩ := pal2 w (.cells #[.int .i64 k, .string nm, .slice h.oa l.length h.cap] 46) (.cells #[.int .i64 0, .string ⟨#[]⟩, .slice none 0 0] 46)
  rw [← hW] at hb0 hx0 hx1
  unfold ViewAt at hv
  rw [soV_hd] at hst
  obtain ⟨n1, hn1⟩ : ∃ k, s.structs.length = k := ⟨_, rfl⟩
  obtain ⟨n2, hn2⟩ : ∃ k, s.enums.length = k := ⟨_, rfl⟩
  obtain ⟨n3, hn3⟩ : ∃ k, s.fns.length = k := ⟨_, rfl⟩
  obtain ⟨o1, c1, hh1⟩ : ∃ o c, s.hs = ⟨o, c⟩ := ⟨_, _, rfl⟩
  obtain ⟨o2, c2, hh2⟩ : ∃ o c, s.he = ⟨o, c⟩ := ⟨_, _, rfl⟩
  obtain ⟨o3, c3, hh3⟩ : ∃ o c, s.hf = ⟨o, c⟩ := ⟨_, _, rfl⟩
  obtain ⟨m0, hm0⟩ : ∃ k, l.length = k := ⟨_, rfl⟩
  simp only [tyV, tyC] at hai ⊢
  simp only [hh1, hh2, hh3, hn1, hn2, hn3] at hst hv
  rw [hm0] at hai hx0 hW ⊢
  have HAI := Lib.hid hai
  have HVW := Lib.hid (show ∀ W, Below w.heap.size w W → W.heap[v]? = _ from fun W hW => (hW.block v (blk_lt hv)).trans hv)
  obtain ⟨N, hN⟩ : ∃ N, N = w.heap.size := ⟨_, rfl⟩
  have hvN : v < N := by rw [hN]; exact blk_lt hv
  rw [← hN] at hx0 hx1
  have HX := Lib.hid (And.intro hx0 hx1)
  have HN := Lib.hid hN
  have HB0 := Lib.hid hb0
  have HVN := Lib.hid hvN
  clear hai hst hs hsn hv ha hk hir hx0 hx1 hb0 hn1 hn2 hn3 hh1 hh2 hh3 hm0 hvN
  go_enter Tryz.func49, Tryz.ntmps49
  go_upto_region 1 with fail
  rw [← hW]
  clear hW
  try simp only [← hN]
  clear hN
  obtain ⟨y0, y1, y2, yf, yl⟩ := cells3p HX.out.1
  go_upto_region 3 with (go_at_call 81; refine (HAI.out W0).mono ?_; rintro e W1 ⟨rfl, hb1⟩; have HB1 := Lib.hid hb1; have HX1 := Lib.hid (And.intro ((hb1.block N (blk_lt HX.out.1)).trans HX.out.1) ((hb1.block (N + 1) (blk_lt HX.out.2)).trans HX.out.2)); obtain ⟨u0, u1, u2, uf, ul⟩ := cells3p HX1.out.1; clear hb1)
  clear y0 y1 y2 yf yl
  have HBW1 := Lib.hid (HB0.out.trans (HB1.out.mono HB0.out.size))
  go_upto_region 4 with fail
  clear u0 u1 u2 uf ul
  go_wp2_with (go_loud (refine wpList_store_box rfl 46 (.tmp 6) (.tmp 22) rfl (N + 1) 0 rfl (.agg #[.int .i64 0, .string ⟨#[]⟩, .slice none 0 0]) rfl [.int .i64 0, .string ⟨#[]⟩, .slice none 0 0] rfl [.int .i64 0, .string ⟨#[]⟩, .slice none 0 0] 46 HX1.out.2 (Nat.le_refl _) (show (Tryz.prog.info? 46).map (·.size) = some 3 by kernel_rfl) ?cx1 (N + 1) (Nat.le_refl _) W1 (Below.refl _ _) ?_))
  try case cx1 => first | exact ⟨rfl, rfl, rfl⟩ | (intro v hv; simp at hv; rcases hv with rfl | rfl | rfl <;> rfl)
  intro WF hb hbx hoth
  have HF := Lib.hid (show Below w.heap.size w WF from (HBW1.out).trans (hb.mono (by have := HN.out; omega)))
  obtain ⟨f0, f1, f2, ff, fl⟩ := cells3p hbx
  clear hb hbx hoth
  go_wp2
  refine bodyPost_ret (v := .tuple #[.agg #[.int .i64 0, .string ⟨#[]⟩, .slice none 0 0], .bool false]) (by simp [results, Tryz.results49, go_sem, f0, f1, f2]) rfl ⟨HF.out, ty0, false, rfl, HIR.out, 1, by unfold I64; omega, Row.nil _ _ _ _⟩
set_option maxRecDepth 100000 in
set_option maxHeartbeats 40000000 in
theorem into_none (n m : Nat) (s : So5) (b : Bo) (v : Nat) (k : Int) (nm : ByteArray) (h : Hd) (l : List Ty5) (step : Int) (w : World) (hs : SoH n w s) (hsn : SoN s) (hv : ViewAt w v s b) (ha : addrB (.mk k nm h l) = false) (kf : Nat → Bool) (hkf : ∀ b, w.heap.size ≤ b → kf b = true) (hk : k = 2) (hi : suAt s nm = -1) :
    Calls Tryz.prog 49 #[.pointer (some ⟨v, 0, none⟩), tyV (.mk k nm h l), .int .i64 step] w fun e w' => Below w.heap.size w w' ∧ ∃ y ok, e = .returned (.tuple #[tyV y, .bool ok]) ∧ intoR s n (.mk k nm h l) step = (if ok then some (erTy y) else none) ∧ ∃ f, TyH f (ebp w' kf) y := by
  have hir : intoR s n (.mk k nm h l) step = none := by
    simp only [intoR]
    rw [if_neg (by rw [ha]; decide), if_neg (by simp [hk]), if_pos (by omega)]
  have HIR := Lib.hid hir
  have e2 : (k != 2) = false := by simp [hk]
  clear hk
  have hai := fun W => isAddress_any (.mk k nm h l) W
  rw [ha] at hai
  have hst : ∀ W, Below w.heap.size w W → Calls Tryz.prog 82 #[soV s, .string nm] W fun e w' => e = .returned (.int .i64 (suAt s nm)) ∧ Below W.heap.size W w' := fun W hW => SuOf_any n s nm W (SoH.below hs hW)
  obtain ⟨W0, hW⟩ : ∃ W, W = (w.alloc (.cells #[.int .i64 k, .string nm, .slice h.oa l.length h.cap] 46)).alloc (.cells #[.int .i64 0, .string ⟨#[]⟩, .slice none 0 0] 46) := ⟨_, rfl⟩
  obtain ⟨hb0, hx0, hx1⟩ := pal2 w (.cells #[.int .i64 k, .string nm, .slice h.oa l.length h.cap] 46) (.cells #[.int .i64 0, .string ⟨#[]⟩, .slice none 0 0] 46)
  rw [← hW] at hb0 hx0 hx1
  unfold ViewAt at hv
  rw [soV_hd] at hst
  obtain ⟨n1, hn1⟩ : ∃ k, s.structs.length = k := ⟨_, rfl⟩
  obtain ⟨n2, hn2⟩ : ∃ k, s.enums.length = k := ⟨_, rfl⟩
  obtain ⟨n3, hn3⟩ : ∃ k, s.fns.length = k := ⟨_, rfl⟩
  obtain ⟨o1, c1, hh1⟩ : ∃ o c, s.hs = ⟨o, c⟩ := ⟨_, _, rfl⟩
  obtain ⟨o2, c2, hh2⟩ : ∃ o c, s.he = ⟨o, c⟩ := ⟨_, _, rfl⟩
  obtain ⟨o3, c3, hh3⟩ : ∃ o c, s.hf = ⟨o, c⟩ := ⟨_, _, rfl⟩
  obtain ⟨m0, hm0⟩ : ∃ k, l.length = k := ⟨_, rfl⟩
  simp only [tyV, tyC] at hai ⊢
  simp only [hh1, hh2, hh3, hn1, hn2, hn3] at hst hv
  rw [hm0] at hai hx0 hW ⊢
  have HAI := Lib.hid hai
  have HVW := Lib.hid (show ∀ W, Below w.heap.size w W → W.heap[v]? = _ from fun W hW => (hW.block v (blk_lt hv)).trans hv)
  obtain ⟨N, hN⟩ : ∃ N, N = w.heap.size := ⟨_, rfl⟩
  have hvN : v < N := by rw [hN]; exact blk_lt hv
  rw [← hN] at hx0 hx1
  have HX := Lib.hid (And.intro hx0 hx1)
  have HN := Lib.hid hN
  have HB0 := Lib.hid hb0
  have HVN := Lib.hid hvN
  rw [hi] at hst
  have HST := Lib.hid hst
  clear hai hst hs hsn hv ha hi hir hx0 hx1 hb0 hn1 hn2 hn3 hh1 hh2 hh3 hm0 hvN
  go_enter Tryz.func49, Tryz.ntmps49
  go_upto_region 1 with fail
  rw [← hW]
  clear hW
  try simp only [← hN]
  clear hN
  obtain ⟨y0, y1, y2, yf, yl⟩ := cells3p HX.out.1
  go_upto_region 3 with (go_at_call 81; refine (HAI.out W0).mono ?_; rintro e W1 ⟨rfl, hb1⟩; have HB1 := Lib.hid hb1; have HX1 := Lib.hid (And.intro ((hb1.block N (blk_lt HX.out.1)).trans HX.out.1) ((hb1.block (N + 1) (blk_lt HX.out.2)).trans HX.out.2)); obtain ⟨u0, u1, u2, uf, ul⟩ := cells3p HX1.out.1; clear hb1)
  clear y0 y1 y2 yf yl
  have HBW1 := Lib.hid (HB0.out.trans (HB1.out.mono HB0.out.size))
  go_upto_region 5 with fail
  obtain ⟨v0, v1, v2, v3, v4, v5, v6, vl⟩ := cells7 (HVW.out W1 HBW1.out)
  go_wp2_with fail
  refine wp_region_held_drew (S := (fun w' => w'.cell? ⟨v, 0, none⟩ = some (.slice o1 n1 c1) ∧ w'.cell? ⟨v, 1, none⟩ = some (.slice o2 n2 c2) ∧ w'.cell? ⟨v, 2, none⟩ = some (.slice o3 n3 c3) ∧ w'.cell? ⟨N, 1, none⟩ = some (.string nm))) (by kernel_rfl) ?_ (fun hHeld => ?_)
  · exact ⟨v0, v1, v2, u1⟩
  clear u0 u1 u2 uf ul v0 v1 v2 v3 v4 v5 v6 vl
  refine wpAnyH_take (i := 0) (oi := { dst := some 23, op := Op.move (Operand.tmp 0), type := 85, pos := "view.go:39", after := #[], guard := none }) (v := ?vq0_1) rfl (by kernel_rfl) (by kernel_rfl) (by kernel_rfl) (fun _ _ _ h => h) (Or.inl ⟨by rfl, ?hq0_1⟩) (by assumption) ?_
  case hq0_1 => intro w hSw; (try dsimp only at hSw); go_simp; try (with_reducible rfl)
  (try simp only [Act.put, qA, qB, qC])
  refine wpAnyH_take (i := 1) (oi := { dst := some 24, op := Op.nilCheck (Operand.tmp 23), type := 0, pos := "view.go:39", after := #[{ on := 0, ground := Ground.data }], guard := none }) (v := ?vq1_2) rfl (by kernel_rfl) (by kernel_rfl) (by kernel_rfl) (fun _ _ _ h => h) (Or.inl ⟨by rfl, ?hq1_2⟩) (by assumption) ?_
  case hq1_2 => intro w hSw; (try dsimp only at hSw); go_simp; try (with_reducible rfl)
  (try simp only [Act.put, qA, qB, qC])
  refine wpAnyH_take (i := 2) (oi := { dst := some 25, op := Op.fieldAddr 87 (Operand.tmp 24) 0, type := 0, pos := "view.go:39", after := #[{ on := 1, ground := Ground.data }], guard := none }) (v := ?vq2_3) rfl (by kernel_rfl) (by kernel_rfl) (by kernel_rfl) (fun _ _ _ h => h) (Or.inl ⟨by rfl, ?hq2_3⟩) (by assumption) ?_
  case hq2_3 => intro w hSw; (try dsimp only at hSw); go_simp; try (with_reducible rfl)
  (try simp only [Act.put, qA, qB, qC])
  refine wpAnyH_take (i := 3) (oi := { dst := some 26, op := Op.load 26 (Operand.tmp 25), type := 26, pos := "view.go:39", after := #[{ on := 2, ground := Ground.data }], guard := none }) (v := ?vq3_4) rfl (by kernel_rfl) (by kernel_rfl) (by kernel_rfl) (fun _ _ _ h => h) (Or.inl ⟨by rfl, ?hq3_4⟩) (by assumption) ?_
  case hq3_4 => intro w hSw; (try dsimp only at hSw); go_simp; try (with_reducible rfl)
  (try simp only [Act.put, qA, qB, qC])
  refine wpAnyH_take (i := 4) (oi := { dst := some 27, op := Op.fieldAddr 46 (Operand.tmp 4) 1, type := 0, pos := "view.go:39", after := #[], guard := none }) (v := ?vq4_5) rfl (by kernel_rfl) (by kernel_rfl) (by kernel_rfl) (fun _ _ _ h => h) (Or.inl ⟨by rfl, ?hq4_5⟩) (by assumption) ?_
  case hq4_5 => intro w hSw; (try dsimp only at hSw); go_simp; try (with_reducible rfl)
  (try simp only [Act.put, qA, qB, qC])
  refine wpAnyH_take (i := 5) (oi := { dst := some 28, op := Op.load 9 (Operand.tmp 27), type := 9, pos := "view.go:39", after := #[{ on := 4, ground := Ground.data }], guard := none }) (v := ?vq5_6) rfl (by kernel_rfl) (by kernel_rfl) (by kernel_rfl) (fun _ _ _ h => h) (Or.inl ⟨by rfl, ?hq5_6⟩) (by assumption) ?_
  case hq5_6 => intro w hSw; (try dsimp only at hSw); go_simp; try (with_reducible rfl)
  (try simp only [Act.put, qA, qB, qC])
  refine wpAnyH_ready (rs := [6]) (by kernel_rfl) (by simp) ?_
  refine AllReadyH.cons (o := { dst := some 29, op := Op.call { callee := Callee.value (Operand.func 82), args := #[Operand.tmp 26, Operand.tmp 28], argTypes := #[26, 9] }, type := 3, pos := "view.go:39", after := #[{ on := 3, ground := Ground.data }, { on := 5, ground := Ground.data }], guard := none }) rfl (fun K hK => ?_) AllReadyH.nil
  go_simp
  refine (HST.out W1.drew (HBW1.out.trans ⟨rfl, rfl, rfl, Nat.le_refl _, fun _ _ => rfl⟩)).mono ?_
  rintro e W2 ⟨rfl, hb2⟩
  have HB2 := Lib.hid (show Below W1.heap.size W1 W2 from (show Below W1.heap.size W1 W1.drew from ⟨rfl, rfl, rfl, Nat.le_refl _, fun _ _ => rfl⟩).trans hb2)
  clear hb2
  have HBW2 := Lib.hid (HBW1.out.trans (HB2.out.mono HBW1.out.size))
  have HX2 := Lib.hid (And.intro ((HB2.out.block N (blk_lt HX1.out.1)).trans HX1.out.1) ((HB2.out.block (N + 1) (blk_lt HX1.out.2)).trans HX1.out.2))
  refine hK.out _ _ ?_ (fun hHeld => ?_)
  · obtain ⟨v0, v1, v2, v3, v4, v5, v6, vl⟩ := cells7 (HVW.out W2 HBW2.out)
    exact ⟨v0, v1, v2, (cells3p HX2.out.1).2.1⟩
  clear hK K
  (try simp only [Act.put, qA, qB, qC])
  refine wpAnyH_take (i := 7) (oi := { dst := some 8, op := Op.assign (Operand.tmp 29), type := 3, pos := "view.go:39", after := #[{ on := 6, ground := Ground.data }, { on := 6, ground := Ground.chain }, { on := 0, ground := Ground.phase }, { on := 1, ground := Ground.phase }, { on := 2, ground := Ground.phase }, { on := 3, ground := Ground.phase }, { on := 4, ground := Ground.phase }, { on := 5, ground := Ground.phase }, { on := 6, ground := Ground.phase }], guard := none }) (v := ?vq7_7) rfl (by kernel_rfl) (by kernel_rfl) (by kernel_rfl) (fun _ _ _ h => h) (Or.inl ⟨by rfl, ?hq7_7⟩) (by assumption) ?_
  case hq7_7 => intro w hSw; (try dsimp only at hSw); go_simp; try (with_reducible rfl)
  (try simp only [Act.put, qA, qB, qC])
  refine wpAnyH_done (by kernel_rfl) ?_ _
  go_wp2_with (go_loud (refine wpList_store_box rfl 46 (.tmp 6) (.tmp 47) rfl (N + 1) 0 rfl (.agg #[.int .i64 0, .string ⟨#[]⟩, .slice none 0 0]) rfl [.int .i64 0, .string ⟨#[]⟩, .slice none 0 0] rfl [.int .i64 0, .string ⟨#[]⟩, .slice none 0 0] 46 HX2.out.2 (Nat.le_refl _) (show (Tryz.prog.info? 46).map (·.size) = some 3 by kernel_rfl) ?cx1 (N + 1) (Nat.le_refl _) W2 (Below.refl _ _) ?_))
  try case cx1 => first | exact ⟨rfl, rfl, rfl⟩ | (intro v hv; simp at hv; rcases hv with rfl | rfl | rfl <;> rfl)
  intro WF hb hbx hoth
  have HF := Lib.hid (show Below w.heap.size w WF from (HBW2.out).trans (hb.mono (by have := HN.out; omega)))
  obtain ⟨f0, f1, f2, ff, fl⟩ := cells3p hbx
  clear hb hbx hoth
  go_wp2
  refine bodyPost_ret (v := .tuple #[.agg #[.int .i64 0, .string ⟨#[]⟩, .slice none 0 0], .bool false]) (by simp [results, Tryz.results49, go_sem, f0, f1, f2]) rfl ⟨HF.out, ty0, false, rfl, HIR.out, 1, by unfold I64; omega, Row.nil _ _ _ _⟩
set_option maxRecDepth 100000 in
set_option maxHeartbeats 40000000 in
theorem into_nofld (n m : Nat) (s : So5) (b : Bo) (v : Nat) (k : Int) (nm : ByteArray) (h : Hd) (l : List Ty5) (step : Int) (w : World) (hs : SoH n w s) (hsn : SoN s) (hv : ViewAt w v s b) (ha : addrB (.mk k nm h l) = false) (kf : Nat → Bool) (hkf : ∀ b, w.heap.size ≤ b → kf b = true) (hk : k = 2) (i : Nat) (x : Su5) (hi : suAt s nm = (i : Int)) (hx : s.structs[i]? = some x) (hp : plB step x.fields.length = false) :
    Calls Tryz.prog 49 #[.pointer (some ⟨v, 0, none⟩), tyV (.mk k nm h l), .int .i64 step] w fun e w' => Below w.heap.size w w' ∧ ∃ y ok, e = .returned (.tuple #[tyV y, .bool ok]) ∧ intoR s n (.mk k nm h l) step = (if ok then some (erTy y) else none) ∧ ∃ f, TyH f (ebp w' kf) y := by
  have hir : intoR s n (.mk k nm h l) step = none := by
    simp only [intoR]
    rw [if_neg (by rw [ha]; decide), if_neg (by simp [hk]), if_neg (by omega), hi, Int.toNat_natCast, hx]
    simp only [hp, Bool.false_eq_true, if_false]
  have HIR := Lib.hid hir
  have e2 : (k != 2) = false := by simp [hk]
  clear hk
  have hsu : SuH n w x := hs.1.2.2.2 x (List.mem_of_getElem? hx)
  obtain ⟨bs, os, hos, hbs, hcs⟩ := hs.1.2.2.1 (by have := (List.getElem?_eq_some_iff.1 hx).1; omega)
  obtain ⟨xn, xd, xh, xf, xq⟩ := x
  have gs : ∀ W, Below w.heap.size w W → W.cell? ⟨bs, os + i * 4 + 2, none⟩ = some (.slice xh.oa xf.length xh.cap) := fun W hW => (hW.cell (p := ⟨bs, os + i * 4 + 2, none⟩) hbs).trans (hcs i _ hx 2 _ rfl)
  have hil : i < s.structs.length := (List.getElem?_eq_some_iff.1 hx).1
  have hmx : s.structs.length ≤ 9223372036854775807 := by have h1 := hs.1.1; have h2 := hs.1.2.1; unfold maxLen at h2; omega
  have hpl := fun W => isPlace_any step (xf.length : Int) W
  have HPL := Lib.hid (show ∀ W, Calls Tryz.prog 48 #[.int .i64 step, .int .i64 xf.length] W fun e w' => e = .returned (.bool false) ∧ w' = W from fun W => by have h1 := hpl W; rw [hp] at h1; exact h1)
  have hai := fun W => isAddress_any (.mk k nm h l) W
  rw [ha] at hai
  have hst : ∀ W, Below w.heap.size w W → Calls Tryz.prog 82 #[soV s, .string nm] W fun e w' => e = .returned (.int .i64 (suAt s nm)) ∧ Below W.heap.size W w' := fun W hW => SuOf_any n s nm W (SoH.below hs hW)
  obtain ⟨W0, hW⟩ : ∃ W, W = (w.alloc (.cells #[.int .i64 k, .string nm, .slice h.oa l.length h.cap] 46)).alloc (.cells #[.int .i64 0, .string ⟨#[]⟩, .slice none 0 0] 46) := ⟨_, rfl⟩
  obtain ⟨hb0, hx0, hx1⟩ := pal2 w (.cells #[.int .i64 k, .string nm, .slice h.oa l.length h.cap] 46) (.cells #[.int .i64 0, .string ⟨#[]⟩, .slice none 0 0] 46)
  rw [← hW] at hb0 hx0 hx1
  unfold ViewAt at hv
  rw [soV_hd] at hst
  obtain ⟨n1, hn1⟩ : ∃ k, s.structs.length = k := ⟨_, rfl⟩
  obtain ⟨n2, hn2⟩ : ∃ k, s.enums.length = k := ⟨_, rfl⟩
  obtain ⟨n3, hn3⟩ : ∃ k, s.fns.length = k := ⟨_, rfl⟩
  obtain ⟨o1, c1, hh1⟩ : ∃ o c, s.hs = ⟨o, c⟩ := ⟨_, _, rfl⟩
  obtain ⟨o2, c2, hh2⟩ : ∃ o c, s.he = ⟨o, c⟩ := ⟨_, _, rfl⟩
  obtain ⟨o3, c3, hh3⟩ : ∃ o c, s.hf = ⟨o, c⟩ := ⟨_, _, rfl⟩
  obtain ⟨m0, hm0⟩ : ∃ k, l.length = k := ⟨_, rfl⟩
  simp only [tyV, tyC] at hai ⊢
  simp only [hh1, hh2, hh3, hn1, hn2, hn3] at hst hv
  rw [hm0] at hai hx0 hW ⊢
  have HAI := Lib.hid hai
  have HVW := Lib.hid (show ∀ W, Below w.heap.size w W → W.heap[v]? = _ from fun W hW => (hW.block v (blk_lt hv)).trans hv)
  obtain ⟨N, hN⟩ : ∃ N, N = w.heap.size := ⟨_, rfl⟩
  have hvN : v < N := by rw [hN]; exact blk_lt hv
  rw [← hN] at hx0 hx1
  have HX := Lib.hid (And.intro hx0 hx1)
  have HN := Lib.hid hN
  have HB0 := Lib.hid hb0
  have HVN := Lib.hid hvN
  rw [hi] at hst
  rw [hn1] at hil hmx
  rw [hh1] at hos
  dsimp only at hos
  have HST := Lib.hid hst
  have HGS := Lib.hid gs
  have ti : decide ((i : Int) < 0) = false := by simp
  have ti0 : (0 : Int) ≤ i := by omega
  have ti1 : (i : Int) < n1 := by omega
  clear hai hst hs hsn hv ha hi hir hx0 hx1 hb0 hn1 hn2 hn3 hh1 hh2 hh3 hm0 hvN hpl hp hx hsu hcs gs hil
  subst hos
  go_enter Tryz.func49, Tryz.ntmps49
  go_upto_region 1 with fail
  rw [← hW]
  clear hW
  try simp only [← hN]
  clear hN
  obtain ⟨y0, y1, y2, yf, yl⟩ := cells3p HX.out.1
  go_upto_region 3 with (go_at_call 81; refine (HAI.out W0).mono ?_; rintro e W1 ⟨rfl, hb1⟩; have HB1 := Lib.hid hb1; have HX1 := Lib.hid (And.intro ((hb1.block N (blk_lt HX.out.1)).trans HX.out.1) ((hb1.block (N + 1) (blk_lt HX.out.2)).trans HX.out.2)); obtain ⟨u0, u1, u2, uf, ul⟩ := cells3p HX1.out.1; clear hb1)
  clear y0 y1 y2 yf yl
  have HBW1 := Lib.hid (HB0.out.trans (HB1.out.mono HB0.out.size))
  go_upto_region 5 with fail
  obtain ⟨v0, v1, v2, v3, v4, v5, v6, vl⟩ := cells7 (HVW.out W1 HBW1.out)
  go_wp2_with fail
  refine wp_region_held_drew (S := (fun w' => w'.cell? ⟨v, 0, none⟩ = some (.slice (some ⟨bs, os, none⟩) n1 c1) ∧ w'.cell? ⟨v, 1, none⟩ = some (.slice o2 n2 c2) ∧ w'.cell? ⟨v, 2, none⟩ = some (.slice o3 n3 c3) ∧ w'.cell? ⟨N, 1, none⟩ = some (.string nm))) (by kernel_rfl) ?_ (fun hHeld => ?_)
  · exact ⟨v0, v1, v2, u1⟩
  clear u0 u1 u2 uf ul v0 v1 v2 v3 v4 v5 v6 vl
  refine wpAnyH_take (i := 0) (oi := { dst := some 23, op := Op.move (Operand.tmp 0), type := 85, pos := "view.go:39", after := #[], guard := none }) (v := ?vq0_1) rfl (by kernel_rfl) (by kernel_rfl) (by kernel_rfl) (fun _ _ _ h => h) (Or.inl ⟨by rfl, ?hq0_1⟩) (by assumption) ?_
  case hq0_1 => intro w hSw; (try dsimp only at hSw); go_simp; try (with_reducible rfl)
  (try simp only [Act.put, qA, qB, qC])
  refine wpAnyH_take (i := 1) (oi := { dst := some 24, op := Op.nilCheck (Operand.tmp 23), type := 0, pos := "view.go:39", after := #[{ on := 0, ground := Ground.data }], guard := none }) (v := ?vq1_2) rfl (by kernel_rfl) (by kernel_rfl) (by kernel_rfl) (fun _ _ _ h => h) (Or.inl ⟨by rfl, ?hq1_2⟩) (by assumption) ?_
  case hq1_2 => intro w hSw; (try dsimp only at hSw); go_simp; try (with_reducible rfl)
  (try simp only [Act.put, qA, qB, qC])
  refine wpAnyH_take (i := 2) (oi := { dst := some 25, op := Op.fieldAddr 87 (Operand.tmp 24) 0, type := 0, pos := "view.go:39", after := #[{ on := 1, ground := Ground.data }], guard := none }) (v := ?vq2_3) rfl (by kernel_rfl) (by kernel_rfl) (by kernel_rfl) (fun _ _ _ h => h) (Or.inl ⟨by rfl, ?hq2_3⟩) (by assumption) ?_
  case hq2_3 => intro w hSw; (try dsimp only at hSw); go_simp; try (with_reducible rfl)
  (try simp only [Act.put, qA, qB, qC])
  refine wpAnyH_take (i := 3) (oi := { dst := some 26, op := Op.load 26 (Operand.tmp 25), type := 26, pos := "view.go:39", after := #[{ on := 2, ground := Ground.data }], guard := none }) (v := ?vq3_4) rfl (by kernel_rfl) (by kernel_rfl) (by kernel_rfl) (fun _ _ _ h => h) (Or.inl ⟨by rfl, ?hq3_4⟩) (by assumption) ?_
  case hq3_4 => intro w hSw; (try dsimp only at hSw); go_simp; try (with_reducible rfl)
  (try simp only [Act.put, qA, qB, qC])
  refine wpAnyH_take (i := 4) (oi := { dst := some 27, op := Op.fieldAddr 46 (Operand.tmp 4) 1, type := 0, pos := "view.go:39", after := #[], guard := none }) (v := ?vq4_5) rfl (by kernel_rfl) (by kernel_rfl) (by kernel_rfl) (fun _ _ _ h => h) (Or.inl ⟨by rfl, ?hq4_5⟩) (by assumption) ?_
  case hq4_5 => intro w hSw; (try dsimp only at hSw); go_simp; try (with_reducible rfl)
  (try simp only [Act.put, qA, qB, qC])
  refine wpAnyH_take (i := 5) (oi := { dst := some 28, op := Op.load 9 (Operand.tmp 27), type := 9, pos := "view.go:39", after := #[{ on := 4, ground := Ground.data }], guard := none }) (v := ?vq5_6) rfl (by kernel_rfl) (by kernel_rfl) (by kernel_rfl) (fun _ _ _ h => h) (Or.inl ⟨by rfl, ?hq5_6⟩) (by assumption) ?_
  case hq5_6 => intro w hSw; (try dsimp only at hSw); go_simp; try (with_reducible rfl)
  (try simp only [Act.put, qA, qB, qC])
  refine wpAnyH_ready (rs := [6]) (by kernel_rfl) (by simp) ?_
  refine AllReadyH.cons (o := { dst := some 29, op := Op.call { callee := Callee.value (Operand.func 82), args := #[Operand.tmp 26, Operand.tmp 28], argTypes := #[26, 9] }, type := 3, pos := "view.go:39", after := #[{ on := 3, ground := Ground.data }, { on := 5, ground := Ground.data }], guard := none }) rfl (fun K hK => ?_) AllReadyH.nil
  go_simp
  refine (HST.out W1.drew (HBW1.out.trans ⟨rfl, rfl, rfl, Nat.le_refl _, fun _ _ => rfl⟩)).mono ?_
  rintro e W2 ⟨rfl, hb2⟩
  have HB2 := Lib.hid (show Below W1.heap.size W1 W2 from (show Below W1.heap.size W1 W1.drew from ⟨rfl, rfl, rfl, Nat.le_refl _, fun _ _ => rfl⟩).trans hb2)
  clear hb2
  have HBW2 := Lib.hid (HBW1.out.trans (HB2.out.mono HBW1.out.size))
  have HX2 := Lib.hid (And.intro ((HB2.out.block N (blk_lt HX1.out.1)).trans HX1.out.1) ((HB2.out.block (N + 1) (blk_lt HX1.out.2)).trans HX1.out.2))
  refine hK.out _ _ ?_ (fun hHeld => ?_)
  · obtain ⟨v0, v1, v2, v3, v4, v5, v6, vl⟩ := cells7 (HVW.out W2 HBW2.out)
    exact ⟨v0, v1, v2, (cells3p HX2.out.1).2.1⟩
  clear hK K
  (try simp only [Act.put, qA, qB, qC])
  refine wpAnyH_take (i := 7) (oi := { dst := some 8, op := Op.assign (Operand.tmp 29), type := 3, pos := "view.go:39", after := #[{ on := 6, ground := Ground.data }, { on := 6, ground := Ground.chain }, { on := 0, ground := Ground.phase }, { on := 1, ground := Ground.phase }, { on := 2, ground := Ground.phase }, { on := 3, ground := Ground.phase }, { on := 4, ground := Ground.phase }, { on := 5, ground := Ground.phase }, { on := 6, ground := Ground.phase }], guard := none }) (v := ?vq7_7) rfl (by kernel_rfl) (by kernel_rfl) (by kernel_rfl) (fun _ _ _ h => h) (Or.inl ⟨by rfl, ?hq7_7⟩) (by assumption) ?_
  case hq7_7 => intro w hSw; (try dsimp only at hSw); go_simp; try (with_reducible rfl)
  (try simp only [Act.put, qA, qB, qC])
  refine wpAnyH_done (by kernel_rfl) ?_ _
  obtain ⟨v0, v1, v2, v3, v4, v5, v6, vl⟩ := cells7 (HVW.out W2 HBW2.out)
  have gs2 := HGS.out W2 HBW2.out
  go_upto_region 7 with (go_at_call 48; refine (HPL.out _).mono ?_; rintro e w9 ⟨rfl, h9⟩; replace h9 := h9.symm; subst h9)
  clear v0 v1 v2 v3 v4 v5 v6 vl gs2
  go_wp2_with (go_loud (refine wpList_store_box rfl 46 (.tmp 6) (.tmp 47) rfl (N + 1) 0 rfl (.agg #[.int .i64 0, .string ⟨#[]⟩, .slice none 0 0]) rfl [.int .i64 0, .string ⟨#[]⟩, .slice none 0 0] rfl [.int .i64 0, .string ⟨#[]⟩, .slice none 0 0] 46 HX2.out.2 (Nat.le_refl _) (show (Tryz.prog.info? 46).map (·.size) = some 3 by kernel_rfl) ?cx1 (N + 1) (Nat.le_refl _) W2 (Below.refl _ _) ?_))
  try case cx1 => first | exact ⟨rfl, rfl, rfl⟩ | (intro v hv; simp at hv; rcases hv with rfl | rfl | rfl <;> rfl)
  intro WF hb hbx hoth
  have HF := Lib.hid (show Below w.heap.size w WF from (HBW2.out).trans (hb.mono (by have := HN.out; omega)))
  obtain ⟨f0, f1, f2, ff, fl⟩ := cells3p hbx
  clear hb hbx hoth
  go_wp2
  refine bodyPost_ret (v := .tuple #[.agg #[.int .i64 0, .string ⟨#[]⟩, .slice none 0 0], .bool false]) (by simp [results, Tryz.results49, go_sem, f0, f1, f2]) rfl ⟨HF.out, ty0, false, rfl, HIR.out, 1, by unfold I64; omega, Row.nil _ _ _ _⟩

end Go.Proofs.YtghkbihgdabamaaGreatDoor
