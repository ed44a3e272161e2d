/-
  Several texts of the proof in one: QAlone, TEqs, TSameA, TSameB, QIsOf. No conditions of their own: each lemma states its own.
-/
import Derived.Test.YtghkbihgdabamaaGreatDoorKQUseN
import Derived.Test.YtghkbihgdabamaaGreatDoorKPRules
namespace Go.Proofs.YtghkbihgdabamaaGreatDoor
open Go.RowKit

def aloneB : Option (Ty5 × Bool) → Nat → Bool
  | some _, np => decide (np = 0)
  | none, _ => false
/-- what alone answers -/
def AloneP (kf : Nat → Bool) (w' : World) (R : Option (Ty5 × Bool)) (np : Nat) (e : Ending) : Prop := ∃ y f, e = .returned (.tuple #[tyV y, .bool (aloneB R np)]) ∧ TyH f (ebp w' kf) y ∧ ∀ r, R = some r → erTy y = r.1
set_option maxRecDepth 100000 in
set_option maxHeartbeats 40000000 in
theorem alone_any (kf : Nat → Bool) (m : Nat) (s : So5) (b : Bo) (v : Nat) (x : Sp) (w : World) (hs : SoH m w s) (hsn : SoN s) (hv : ViewAt w v s b) (hb : BoH m w b) (hx : SpH w x) (hk : ∀ y, w.heap.size ≤ y → kf y = true) (hbk : ∀ lo ∈ b.locals, TyH m (ebp w kf) lo.ty) :
    Calls Tryz.prog 144 #[.pointer (some ⟨v, 0, none⟩), spV x] w fun e w' => Below w.heap.size w w' ∧ AloneP kf w' (spotR s m b x) x.path.length e := by
  obtain ⟨R, hR⟩ : ∃ R, R = spotR s m b x := ⟨_, rfl⟩
  rw [← hR]
  have HSP := Lib.hid (show ∀ W a c, Below w.heap.size w W → w.heap.size ≤ a → w.heap.size ≤ c → a < W.heap.size → c < W.heap.size → Calls Tryz.prog 24 #[.pointer (some ⟨v, 0, none⟩), spV x] W fun e w' => Below W.heap.size W w' ∧ SpotK (fun y => kf y && (y != a && y != c)) w' R e from fun W a c hW ha hc ha2 hc2 => by
    rw [hR]
    exact spotK_any _ m s b v x W (SoH.below hs hW) hsn (hv.below hW) (BoH.below hb hW) (SpH.below hx hW) (fun y hy => by have h1 := hW.size; simp [hk y (by omega)]; omega) fun lo hlo => TyH.und m _ _ _ (ebp_und hW.size fun y hl hy => ⟨by simp [hy]; omega, hW.block y hl⟩) (hbk lo hlo))
  have hlp : x.path.length ≤ 9223372036854775807 := by
    have h1 : x.path.length ≤ x.h.cap := hx.2.1
    have h2 : x.h.cap ≤ maxLen := hx.2.2.1
    unfold maxLen at h2
    omega
  obtain ⟨loc, h, path⟩ := x
  simp only [spV, spC] at HSP hlp ⊢
  obtain ⟨np, hnp⟩ : ∃ k, path.length = k := ⟨_, rfl⟩
  rw [hnp] at hlp
  have HLP := Lib.hid hlp
  clear hs hsn hv hb hx hR hlp hk hbk
  obtain ⟨W0, hW⟩ : ∃ W, W = (w.alloc (.cells #[.int .i64 loc, .slice h.oa path.length h.cap] 33)).alloc (.cells #[.int .i64 0, .string ⟨#[]⟩, .slice none 0 0] 46) := ⟨_, rfl⟩
  obtain ⟨hb0, hx0, hx1⟩ := pal2 w (.cells #[.int .i64 loc, .slice h.oa path.length h.cap] 33) (.cells #[.int .i64 0, .string ⟨#[]⟩, .slice none 0 0] 46)
  rw [← hW] at hb0 hx0 hx1
  obtain ⟨N, hN⟩ : ∃ N, N = w.heap.size := ⟨_, rfl⟩
  rw [← hN] at hx0 hx1 hb0
  have HX := Lib.hid (And.intro hx0 hx1)
  have HB0 := Lib.hid hb0
  have HN := Lib.hid hN
  clear hx0 hx1 hb0
  rw [hnp] at HX HSP hW ⊢
  clear hnp
  go_enter Tryz.func144, Tryz.ntmps144
  go_upto_region 1 with fail
  rw [← hW]
  clear hW
  try simp only [← hN]
  clear hN
  obtain ⟨p0, p1, pf, pl⟩ := cells2p HX.out.1
  go_upto_region 2 with
    (first
      | (go_loud (go_at_call 24; refine (HSP.out W0 N (N + 1) (by rw [← HN.out]; exact HB0.out) (by rw [← HN.out]; exact Nat.le_refl _) (by rw [← HN.out]; exact Nat.le_succ _) (blk_lt HX.out.1) (blk_lt HX.out.2)).mono ?_; rintro e W1 ⟨hb1, hp1⟩; obtain ⟨⟨k1, nm1, h1, l1⟩, sh, er, f, rfl, ht1, hr1⟩ := hp1.val; simp only [tyV, tyC]; have HS1 := Lib.hid hb1; have HT1 := Lib.hid (And.intro ht1 hr1); clear hb1 hp1 ht1 hr1))
      | (go_loud (refine wpList_store_box rfl 46 (.tmp 6) (.tmp 13) rfl W1.heap.size 0 rfl (.agg #[.int .i64 k1, .string nm1, .slice h1.oa l1.length h1.cap]) rfl [.int .i64 k1, .string nm1, .slice h1.oa l1.length h1.cap] rfl [.int .i64 0, .string ⟨#[]⟩, .slice none 0 0] 46 (heap_alloc_new W1 (.cells #[.int .i64 0, .string ⟨#[]⟩, .slice none 0 0] 46)) (Nat.le_refl _) (show (Tryz.prog.info? 46).map (·.size) = some 3 by kernel_rfl) ?ca1 W1.heap.size (Nat.le_refl _) (W1.alloc (.cells #[.int .i64 0, .string ⟨#[]⟩, .slice none 0 0] 46)) (Below.refl _ _) ?_; rotate_left; intro W2 hb2 hbx hoth)))
  try case ca1 => first | exact ⟨rfl, rfl, rfl⟩ | (intro v hv; simp at hv; rcases hv with rfl | rfl | rfl <;> rfl)
  have HB2 := Lib.hid (show Below W0.heap.size W0 W2 from HS1.out.trans (((alloc_below W1 (.cells #[.int .i64 0, .string ⟨#[]⟩, .slice none 0 0] 46)).trans hb2).mono HS1.out.size))
  obtain ⟨M, hM⟩ : ∃ M, M = W1.heap.size := ⟨_, rfl⟩
  have HM := Lib.hid (show W2.heap[M]? = some (.cells #[.int .i64 k1, .string nm1, .slice h1.oa l1.length h1.cap] 46) ∧ W0.heap.size ≤ M ∧ W1.heap.size ≤ W2.heap.size ∧ Below W1.heap.size W1 W2 by rw [hM]; exact ⟨hbx, HS1.out.size, Nat.le_trans (alloc_below W1 _).size hb2.size, (alloc_below W1 (.cells #[.int .i64 0, .string ⟨#[]⟩, .slice none 0 0] 46)).trans hb2⟩)
  have HX2 := Lib.hid (show W2.heap[N]? = some (.cells #[.int .i64 loc, .slice h.oa np h.cap] 33) ∧ W2.heap[N + 1]? = some (.cells #[.int .i64 0, .string ⟨#[]⟩, .slice none 0 0] 46) from ⟨(HB2.out.block N (blk_lt HX.out.1)).trans HX.out.1, (HB2.out.block (N + 1) (blk_lt HX.out.2)).trans HX.out.2⟩)
  try simp only [← hM]
  clear hM hb2 hbx hoth p0 p1 pf pl
  obtain ⟨m0, m1, m2, mf, ml⟩ := cells3p HM.out.1
  obtain ⟨p0, p1, pf, pl⟩ := cells2p HX2.out.1
  have HP := Lib.hid (And.intro p1 (And.intro m0 (And.intro m1 m2)))
  clear m0 m1 m2 mf ml p0 p1 pf pl
  cases R with
  | none =>
    obtain ⟨-, -, rfl⟩ := HT1.out.2
    obtain ⟨m0, m1, m2, mf, ml⟩ := cells3p HM.out.1
    obtain ⟨p0, p1, pf, pl⟩ := cells2p HX2.out.1
    go_wp2_with fail
    refine wp_region_held_drew (S := (fun w' => w'.cell? ⟨N, 1, none⟩ = some (.slice h.oa np h.cap) ∧ w'.cell? ⟨M, 0, none⟩ = some (.int .i64 k1) ∧ w'.cell? ⟨M, 1, none⟩ = some (.string nm1) ∧ w'.cell? ⟨M, 2, none⟩ = some (.slice h1.oa l1.length h1.cap))) (by kernel_rfl) ?_ (fun hHeld => ?_)
    · exact HP.out
    clear m0 m1 m2 mf ml p0 p1 pf pl
    refine wpAnyH_take (i := 0) (oi := { dst := some 16, op := Op.load 46 (Operand.tmp 6), type := 46, pos := "view.go:50", after := #[], guard := none }) (v := ?vq0_1) rfl (by kernel_rfl) (by kernel_rfl) (by kernel_rfl) (fun _ _ _ h => h) (Or.inl ⟨by rfl, ?hq0_1⟩) (by assumption) ?_
    case hq0_1 => intro w hSw; (try dsimp only at hSw); go_simp; try (with_reducible rfl)
    (try simp only [Act.put, qA, qB, qC])
    refine wpAnyH_take (i := 1) (oi := { dst := some 17, op := Op.move (Operand.tmp 8), type := 47, pos := "view.go:50", after := #[], guard := none }) (v := ?vq1_2) rfl (by kernel_rfl) (by kernel_rfl) (by kernel_rfl) (fun _ _ _ h => h) (Or.inl ⟨by rfl, ?hq1_2⟩) (by assumption) ?_
    case hq1_2 => intro w hSw; (try dsimp only at hSw); go_simp; try (with_reducible rfl)
    (try simp only [Act.put, qA, qB, qC])
    refine wpAnyH_take (i := 2) (oi := { dst := some 18, op := Op.binOp BinOp.eql 47 (Operand.tmp 17) (Operand.const (Value.int IntKind.i64 0)) 47, type := 4, pos := "view.go:50", after := #[{ on := 1, ground := Ground.data }], guard := none }) (v := ?vq2_3) rfl (by kernel_rfl) (by kernel_rfl) (by kernel_rfl) (fun _ _ _ h => h) (Or.inl ⟨by rfl, ?hq2_3⟩) (by assumption) ?_
    case hq2_3 => intro w hSw; (try dsimp only at hSw); go_simp; try (with_reducible rfl)
    (try simp only [Act.put, qA, qB, qC])
    refine wpAnyH_take (i := 3) (oi := { dst := some 19, op := Op.move (Operand.tmp 18), type := 4, pos := "view.go:50", after := #[{ on := 2, ground := Ground.data }], guard := none }) (v := ?vq3_4) rfl (by kernel_rfl) (by kernel_rfl) (by kernel_rfl) (fun _ _ _ h => h) (Or.inl ⟨by rfl, ?hq3_4⟩) (by assumption) ?_
    case hq3_4 => intro w hSw; (try dsimp only at hSw); go_simp; try (with_reducible rfl)
    (try simp only [Act.put, qA, qB, qC])
    refine wpAnyH_take (i := 4) (oi := { dst := some 20, op := Op.fieldAddr 33 (Operand.tmp 3) 1, type := 0, pos := "view.go:50", after := #[{ on := 3, ground := Ground.guard }], guard := some (3, true) }) (v := undef) rfl (by kernel_rfl) (by kernel_rfl) (by kernel_rfl) (fun _ _ _ h => h) (Or.inr ⟨by rfl, rfl⟩) (by assumption) ?_
    (try simp only [Act.put, qA, qB, qC])
    refine wpAnyH_take (i := 5) (oi := { dst := some 21, op := Op.load 31 (Operand.tmp 20), type := 31, pos := "view.go:50", after := #[{ on := 4, ground := Ground.data }, { on := 3, ground := Ground.guard }], guard := some (3, true) }) (v := undef) rfl (by kernel_rfl) (by kernel_rfl) (by kernel_rfl) (fun _ _ _ h => h) (Or.inr ⟨by rfl, rfl⟩) (by assumption) ?_
    (try simp only [Act.put, qA, qB, qC])
    refine wpAnyH_take (i := 6) (oi := { dst := some 22, op := Op.call { callee := Callee.builtin Builtin.len, args := #[Operand.tmp 21], argTypes := #[31] }, type := 3, pos := "view.go:50", after := #[{ on := 5, ground := Ground.data }, { on := 3, ground := Ground.guard }], guard := some (3, true) }) (v := undef) rfl (by kernel_rfl) (by kernel_rfl) (by kernel_rfl) (fun _ _ _ h => h) (Or.inr ⟨by rfl, rfl⟩) (by assumption) ?_
    (try simp only [Act.put, qA, qB, qC])
    refine wpAnyH_take (i := 7) (oi := { dst := some 23, op := Op.binOp BinOp.eql 3 (Operand.tmp 22) (Operand.const (Value.int IntKind.i64 0)) 3, type := 4, pos := "view.go:50", after := #[{ on := 6, ground := Ground.data }, { on := 3, ground := Ground.guard }, { on := 9, ground := Ground.gcOnly Departure.lateStores }], guard := some (3, true) }) (v := undef) rfl (by kernel_rfl) (by kernel_rfl) (by kernel_rfl) (fun _ _ _ h => h) (Or.inr ⟨by rfl, rfl⟩) (by assumption) ?_
    (try simp only [Act.put, qA, qB, qC])
    refine wpAnyH_take (i := 8) (oi := { dst := some 24, op := Op.pick (Operand.tmp 19) (Operand.tmp 23) (Operand.const (Value.bool false)), type := 4, pos := "view.go:50", after := #[{ on := 3, ground := Ground.data }, { on := 7, ground := Ground.data }, { on := 9, ground := Ground.gcOnly Departure.lateStores }], guard := none }) (v := ?vq8_5) rfl (by kernel_rfl) (by kernel_rfl) (by kernel_rfl) (fun _ _ _ h => h) (Or.inl ⟨by rfl, ?hq8_5⟩) (by assumption) ?_
    case hq8_5 => intro w hSw; (try dsimp only at hSw); go_simp; try (with_reducible rfl)
    (try simp only [Act.put, qA, qB, qC])
    refine wpAnyH_ready (rs := [9]) (by kernel_rfl) (by simp) ?_
    refine AllReadyH.cons (o := { dst := none, op := Op.store 46 (Operand.tmp 4) (Operand.tmp 16), type := 0, pos := "view.go:50", after := #[{ on := 0, ground := Ground.data }, { on := 3, ground := Ground.chain }, { on := 0, ground := Ground.phase }, { on := 1, ground := Ground.textOnly Departure.lateStores }, { on := 2, ground := Ground.textOnly Departure.lateStores }, { on := 3, ground := Ground.textOnly Departure.lateStores }, { on := 4, ground := Ground.textOnly Departure.lateStores }, { on := 5, ground := Ground.textOnly Departure.lateStores }, { on := 6, ground := Ground.textOnly Departure.lateStoresUnsure }, { on := 7, ground := Ground.textOnly Departure.lateStores }, { on := 8, ground := Ground.textOnly Departure.lateStores }], guard := none }) rfl (fun K hK => ?_) AllReadyH.nil
    rw [if_pos (by rfl)]
    refine wp_store_box 46 (.tmp 4) (.tmp 16) rfl (N + 1) 0 rfl (.agg #[.int .i64 k1, .string nm1, .slice h1.oa l1.length h1.cap]) rfl [.int .i64 k1, .string nm1, .slice h1.oa l1.length h1.cap] rfl [.int .i64 0, .string ⟨#[]⟩, .slice none 0 0] 46 (show W2.drew.heap[N + 1]? = _ from HX2.out.2) (Nat.le_refl _) (show (Tryz.prog.info? 46).map (·.size) = some 3 by kernel_rfl) ?cb2 (N + 1) (Nat.le_refl _) W2.drew (Below.refl _ _) ?_
    try case cb2 => first | exact ⟨rfl, rfl, rfl⟩ | (intro v hv; simp at hv; rcases hv with rfl | rfl | rfl <;> rfl)
    intro WF hb hbx hoth
    have hnm : M ≠ N + 1 := fun e => by have h1 := HM.out.2.1; have h2 := blk_lt HX.out.2; omega
    have HF := Lib.hid (show Below w.heap.size w WF by rw [← HN.out]; exact HB0.out.trans (((HB2.out.trans (show Below W0.heap.size W2 W2.drew from ⟨rfl, rfl, rfl, Nat.le_refl _, fun _ _ => rfl⟩)).mono (by have := blk_lt HX.out.1; omega) : Below N W0 W2.drew).trans (hb.mono (by omega))))
    have HTF := Lib.hid (show ∃ f, TyH f (ebp WF kf) (.mk k1 nm1 h1 l1) from ⟨f, (TyH.und f _ _ _ (ebp_und (Nat.le_trans HM.out.2.2.1 hb.size) fun z hl hz => by simp at hz; exact ⟨hz.1, (hoth z hz.2.2).trans (HM.out.2.2.2.block z hl)⟩) HT1.out.1)⟩)
    have HFX := Lib.hid hbx
    have HSF := Lib.hid (And.intro ((hoth N (by omega)).trans HX2.out.1) ((hoth M hnm).trans HM.out.1))
    clear hb hbx hoth hnm
    refine hK.out _ _ ?_ (fun hHeld => ?_)
    · exact ⟨(cells2p HSF.out.1).2.1, (cells3p HSF.out.2).1, (cells3p HSF.out.2).2.1, (cells3p HSF.out.2).2.2.1⟩
    clear hK K
    (try simp only [Act.put, qA, qB, qC])
    refine wpAnyH_take (i := 10) (oi := { dst := some 5, op := Op.assign (Operand.tmp 24), type := 4, pos := "view.go:50", after := #[{ on := 8, ground := Ground.data }, { on := 9, ground := Ground.chain }, { on := 0, ground := Ground.phase }, { on := 1, ground := Ground.phase }, { on := 2, ground := Ground.phase }, { on := 3, ground := Ground.phase }, { on := 4, ground := Ground.phase }, { on := 5, ground := Ground.phase }, { on := 6, ground := Ground.phase }, { on := 7, ground := Ground.phase }, { on := 8, ground := Ground.phase }, { on := 9, ground := Ground.phase }], guard := none }) (v := ?vq10_6) rfl (by kernel_rfl) (by kernel_rfl) (by kernel_rfl) (fun _ _ _ h => h) (Or.inl ⟨by rfl, ?hq10_6⟩) (by assumption) ?_
    case hq10_6 => intro w hSw; (try dsimp only at hSw); go_simp; try (with_reducible rfl)
    (try simp only [Act.put, qA, qB, qC])
    refine wpAnyH_done (by kernel_rfl) ?_ _
    obtain ⟨f0, f1, f2, ff, fl⟩ := cells3p HFX.out
    go_wp2
    refine bodyPost_ret (v := .tuple #[.agg #[.int .i64 k1, .string nm1, .slice h1.oa l1.length h1.cap], .bool false]) (by simp [results, Tryz.results144, go_sem, f0, f1, f2]) rfl ⟨HF.out, ?_⟩
    obtain ⟨f9, hf9⟩ := HTF.out
    exact ⟨.mk k1 nm1 h1 l1, f9, rfl, hf9, fun r hr => by cases hr⟩
  | some r =>
    obtain ⟨hy, rfl, rfl⟩ := HT1.out.2
    clear hy
    by_cases hl0 : np = 0
    · have HL0 := Lib.hid hl0
      clear hl0
      obtain ⟨m0, m1, m2, mf, ml⟩ := cells3p HM.out.1
      obtain ⟨p0, p1, pf, pl⟩ := cells2p HX2.out.1
      go_wp2_with fail
      refine wp_region_held_drew (S := (fun w' => w'.cell? ⟨N, 1, none⟩ = some (.slice h.oa np h.cap) ∧ w'.cell? ⟨M, 0, none⟩ = some (.int .i64 k1) ∧ w'.cell? ⟨M, 1, none⟩ = some (.string nm1) ∧ w'.cell? ⟨M, 2, none⟩ = some (.slice h1.oa l1.length h1.cap))) (by kernel_rfl) ?_ (fun hHeld => ?_)
      · exact HP.out
      clear m0 m1 m2 mf ml p0 p1 pf pl
      refine wpAnyH_take (i := 0) (oi := { dst := some 16, op := Op.load 46 (Operand.tmp 6), type := 46, pos := "view.go:50", after := #[], guard := none }) (v := ?vq0_7) rfl (by kernel_rfl) (by kernel_rfl) (by kernel_rfl) (fun _ _ _ h => h) (Or.inl ⟨by rfl, ?hq0_7⟩) (by assumption) ?_
      case hq0_7 => intro w hSw; (try dsimp only at hSw); go_simp; try (with_reducible rfl)
      (try simp only [Act.put, qA, qB, qC])
      refine wpAnyH_take (i := 1) (oi := { dst := some 17, op := Op.move (Operand.tmp 8), type := 47, pos := "view.go:50", after := #[], guard := none }) (v := ?vq1_8) rfl (by kernel_rfl) (by kernel_rfl) (by kernel_rfl) (fun _ _ _ h => h) (Or.inl ⟨by rfl, ?hq1_8⟩) (by assumption) ?_
      case hq1_8 => intro w hSw; (try dsimp only at hSw); go_simp; try (with_reducible rfl)
      (try simp only [Act.put, qA, qB, qC])
      refine wpAnyH_take (i := 2) (oi := { dst := some 18, op := Op.binOp BinOp.eql 47 (Operand.tmp 17) (Operand.const (Value.int IntKind.i64 0)) 47, type := 4, pos := "view.go:50", after := #[{ on := 1, ground := Ground.data }], guard := none }) (v := ?vq2_9) rfl (by kernel_rfl) (by kernel_rfl) (by kernel_rfl) (fun _ _ _ h => h) (Or.inl ⟨by rfl, ?hq2_9⟩) (by assumption) ?_
      case hq2_9 => intro w hSw; (try dsimp only at hSw); go_simp; try (with_reducible rfl)
      (try simp only [Act.put, qA, qB, qC])
      refine wpAnyH_take (i := 3) (oi := { dst := some 19, op := Op.move (Operand.tmp 18), type := 4, pos := "view.go:50", after := #[{ on := 2, ground := Ground.data }], guard := none }) (v := ?vq3_10) rfl (by kernel_rfl) (by kernel_rfl) (by kernel_rfl) (fun _ _ _ h => h) (Or.inl ⟨by rfl, ?hq3_10⟩) (by assumption) ?_
      case hq3_10 => intro w hSw; (try dsimp only at hSw); go_simp; try (with_reducible rfl)
      (try simp only [Act.put, qA, qB, qC])
      refine wpAnyH_take (i := 4) (oi := { dst := some 20, op := Op.fieldAddr 33 (Operand.tmp 3) 1, type := 0, pos := "view.go:50", after := #[{ on := 3, ground := Ground.guard }], guard := some (3, true) }) (v := ?vq4_11) rfl (by kernel_rfl) (by kernel_rfl) (by kernel_rfl) (fun _ _ _ h => h) (Or.inl ⟨by rfl, ?hq4_11⟩) (by assumption) ?_
      case hq4_11 => intro w hSw; (try dsimp only at hSw); go_simp; try (with_reducible rfl)
      (try simp only [Act.put, qA, qB, qC])
      refine wpAnyH_take (i := 5) (oi := { dst := some 21, op := Op.load 31 (Operand.tmp 20), type := 31, pos := "view.go:50", after := #[{ on := 4, ground := Ground.data }, { on := 3, ground := Ground.guard }], guard := some (3, true) }) (v := ?vq5_12) rfl (by kernel_rfl) (by kernel_rfl) (by kernel_rfl) (fun _ _ _ h => h) (Or.inl ⟨by rfl, ?hq5_12⟩) (by assumption) ?_
      case hq5_12 => intro w hSw; (try dsimp only at hSw); go_simp; try (with_reducible rfl)
      (try simp only [Act.put, qA, qB, qC])
      refine wpAnyH_take (i := 6) (oi := { dst := some 22, op := Op.call { callee := Callee.builtin Builtin.len, args := #[Operand.tmp 21], argTypes := #[31] }, type := 3, pos := "view.go:50", after := #[{ on := 5, ground := Ground.data }, { on := 3, ground := Ground.guard }], guard := some (3, true) }) (v := ?vq6_13) rfl (by kernel_rfl) (by kernel_rfl) (by kernel_rfl) (fun _ _ _ h => h) (Or.inl ⟨by rfl, ?hq6_13⟩) (by assumption) ?_
      case hq6_13 => intro w hSw; (try dsimp only at hSw); go_simp; try (with_reducible rfl)
      (try simp only [Act.put, qA, qB, qC])
      refine wpAnyH_take (i := 7) (oi := { dst := some 23, op := Op.binOp BinOp.eql 3 (Operand.tmp 22) (Operand.const (Value.int IntKind.i64 0)) 3, type := 4, pos := "view.go:50", after := #[{ on := 6, ground := Ground.data }, { on := 3, ground := Ground.guard }, { on := 9, ground := Ground.gcOnly Departure.lateStores }], guard := some (3, true) }) (v := .bool true) rfl (by kernel_rfl) (by kernel_rfl) (by kernel_rfl) (fun _ _ _ h => h) (Or.inl ⟨by rfl, ?hq7_14⟩) (by assumption) ?_
      case hq7_14 => intro w hSw; (try dsimp only at hSw); go_simp; first | done | (with_reducible rfl) | (have h0 := HL0.out; simp [h0])
      (try simp only [Act.put, qA, qB, qC])
      refine wpAnyH_take (i := 8) (oi := { dst := some 24, op := Op.pick (Operand.tmp 19) (Operand.tmp 23) (Operand.const (Value.bool false)), type := 4, pos := "view.go:50", after := #[{ on := 3, ground := Ground.data }, { on := 7, ground := Ground.data }, { on := 9, ground := Ground.gcOnly Departure.lateStores }], guard := none }) (v := ?vq8_15) rfl (by kernel_rfl) (by kernel_rfl) (by kernel_rfl) (fun _ _ _ h => h) (Or.inl ⟨by rfl, ?hq8_15⟩) (by assumption) ?_
      case hq8_15 => intro w hSw; (try dsimp only at hSw); go_simp; try (with_reducible rfl)
      (try simp only [Act.put, qA, qB, qC])
      refine wpAnyH_ready (rs := [9]) (by kernel_rfl) (by simp) ?_
      refine AllReadyH.cons (o := { dst := none, op := Op.store 46 (Operand.tmp 4) (Operand.tmp 16), type := 0, pos := "view.go:50", after := #[{ on := 0, ground := Ground.data }, { on := 3, ground := Ground.chain }, { on := 0, ground := Ground.phase }, { on := 1, ground := Ground.textOnly Departure.lateStores }, { on := 2, ground := Ground.textOnly Departure.lateStores }, { on := 3, ground := Ground.textOnly Departure.lateStores }, { on := 4, ground := Ground.textOnly Departure.lateStores }, { on := 5, ground := Ground.textOnly Departure.lateStores }, { on := 6, ground := Ground.textOnly Departure.lateStoresUnsure }, { on := 7, ground := Ground.textOnly Departure.lateStores }, { on := 8, ground := Ground.textOnly Departure.lateStores }], guard := none }) rfl (fun K hK => ?_) AllReadyH.nil
      rw [if_pos (by rfl)]
      refine wp_store_box 46 (.tmp 4) (.tmp 16) rfl (N + 1) 0 rfl (.agg #[.int .i64 k1, .string nm1, .slice h1.oa l1.length h1.cap]) rfl [.int .i64 k1, .string nm1, .slice h1.oa l1.length h1.cap] rfl [.int .i64 0, .string ⟨#[]⟩, .slice none 0 0] 46 (show W2.drew.heap[N + 1]? = _ from HX2.out.2) (Nat.le_refl _) (show (Tryz.prog.info? 46).map (·.size) = some 3 by kernel_rfl) ?cb3 (N + 1) (Nat.le_refl _) W2.drew (Below.refl _ _) ?_
      try case cb3 => first | exact ⟨rfl, rfl, rfl⟩ | (intro v hv; simp at hv; rcases hv with rfl | rfl | rfl <;> rfl)
      intro WF hb hbx hoth
      have hnm : M ≠ N + 1 := fun e => by have h1 := HM.out.2.1; have h2 := blk_lt HX.out.2; omega
      have HF := Lib.hid (show Below w.heap.size w WF by rw [← HN.out]; exact HB0.out.trans (((HB2.out.trans (show Below W0.heap.size W2 W2.drew from ⟨rfl, rfl, rfl, Nat.le_refl _, fun _ _ => rfl⟩)).mono (by have := blk_lt HX.out.1; omega) : Below N W0 W2.drew).trans (hb.mono (by omega))))
      have HTF := Lib.hid (show ∃ f, TyH f (ebp WF kf) (.mk k1 nm1 h1 l1) from ⟨f, (TyH.und f _ _ _ (ebp_und (Nat.le_trans HM.out.2.2.1 hb.size) fun z hl hz => by simp at hz; exact ⟨hz.1, (hoth z hz.2.2).trans (HM.out.2.2.2.block z hl)⟩) HT1.out.1)⟩)
      have HFX := Lib.hid hbx
      have HSF := Lib.hid (And.intro ((hoth N (by omega)).trans HX2.out.1) ((hoth M hnm).trans HM.out.1))
      clear hb hbx hoth hnm
      refine hK.out _ _ ?_ (fun hHeld => ?_)
      · exact ⟨(cells2p HSF.out.1).2.1, (cells3p HSF.out.2).1, (cells3p HSF.out.2).2.1, (cells3p HSF.out.2).2.2.1⟩
      clear hK K
      (try simp only [Act.put, qA, qB, qC])
      refine wpAnyH_take (i := 10) (oi := { dst := some 5, op := Op.assign (Operand.tmp 24), type := 4, pos := "view.go:50", after := #[{ on := 8, ground := Ground.data }, { on := 9, ground := Ground.chain }, { on := 0, ground := Ground.phase }, { on := 1, ground := Ground.phase }, { on := 2, ground := Ground.phase }, { on := 3, ground := Ground.phase }, { on := 4, ground := Ground.phase }, { on := 5, ground := Ground.phase }, { on := 6, ground := Ground.phase }, { on := 7, ground := Ground.phase }, { on := 8, ground := Ground.phase }, { on := 9, ground := Ground.phase }], guard := none }) (v := ?vq10_16) rfl (by kernel_rfl) (by kernel_rfl) (by kernel_rfl) (fun _ _ _ h => h) (Or.inl ⟨by rfl, ?hq10_16⟩) (by assumption) ?_
      case hq10_16 => intro w hSw; (try dsimp only at hSw); go_simp; try (with_reducible rfl)
      (try simp only [Act.put, qA, qB, qC])
      refine wpAnyH_done (by kernel_rfl) ?_ _
      obtain ⟨f0, f1, f2, ff, fl⟩ := cells3p HFX.out
      go_wp2
      refine bodyPost_ret (v := .tuple #[.agg #[.int .i64 k1, .string nm1, .slice h1.oa l1.length h1.cap], .bool true]) (by simp [results, Tryz.results144, go_sem, f0, f1, f2]) rfl ⟨HF.out, ?_⟩
      obtain ⟨f9, hf9⟩ := HTF.out
      exact ⟨.mk k1 nm1 h1 l1, f9, by simp only [aloneB]; rw [decide_eq_true HL0.out]; rfl, hf9, fun r hr => by cases hr; exact HT1.out.2.1⟩
    · have HL0 := Lib.hid hl0
      clear hl0
      obtain ⟨m0, m1, m2, mf, ml⟩ := cells3p HM.out.1
      obtain ⟨p0, p1, pf, pl⟩ := cells2p HX2.out.1
      go_wp2_with fail
      refine wp_region_held_drew (S := (fun w' => w'.cell? ⟨N, 1, none⟩ = some (.slice h.oa np h.cap) ∧ w'.cell? ⟨M, 0, none⟩ = some (.int .i64 k1) ∧ w'.cell? ⟨M, 1, none⟩ = some (.string nm1) ∧ w'.cell? ⟨M, 2, none⟩ = some (.slice h1.oa l1.length h1.cap))) (by kernel_rfl) ?_ (fun hHeld => ?_)
      · exact HP.out
      clear m0 m1 m2 mf ml p0 p1 pf pl
      refine wpAnyH_take (i := 0) (oi := { dst := some 16, op := Op.load 46 (Operand.tmp 6), type := 46, pos := "view.go:50", after := #[], guard := none }) (v := ?vq0_17) rfl (by kernel_rfl) (by kernel_rfl) (by kernel_rfl) (fun _ _ _ h => h) (Or.inl ⟨by rfl, ?hq0_17⟩) (by assumption) ?_
      case hq0_17 => intro w hSw; (try dsimp only at hSw); go_simp; try (with_reducible rfl)
      (try simp only [Act.put, qA, qB, qC])
      refine wpAnyH_take (i := 1) (oi := { dst := some 17, op := Op.move (Operand.tmp 8), type := 47, pos := "view.go:50", after := #[], guard := none }) (v := ?vq1_18) rfl (by kernel_rfl) (by kernel_rfl) (by kernel_rfl) (fun _ _ _ h => h) (Or.inl ⟨by rfl, ?hq1_18⟩) (by assumption) ?_
      case hq1_18 => intro w hSw; (try dsimp only at hSw); go_simp; try (with_reducible rfl)
      (try simp only [Act.put, qA, qB, qC])
      refine wpAnyH_take (i := 2) (oi := { dst := some 18, op := Op.binOp BinOp.eql 47 (Operand.tmp 17) (Operand.const (Value.int IntKind.i64 0)) 47, type := 4, pos := "view.go:50", after := #[{ on := 1, ground := Ground.data }], guard := none }) (v := ?vq2_19) rfl (by kernel_rfl) (by kernel_rfl) (by kernel_rfl) (fun _ _ _ h => h) (Or.inl ⟨by rfl, ?hq2_19⟩) (by assumption) ?_
      case hq2_19 => intro w hSw; (try dsimp only at hSw); go_simp; try (with_reducible rfl)
      (try simp only [Act.put, qA, qB, qC])
      refine wpAnyH_take (i := 3) (oi := { dst := some 19, op := Op.move (Operand.tmp 18), type := 4, pos := "view.go:50", after := #[{ on := 2, ground := Ground.data }], guard := none }) (v := ?vq3_20) rfl (by kernel_rfl) (by kernel_rfl) (by kernel_rfl) (fun _ _ _ h => h) (Or.inl ⟨by rfl, ?hq3_20⟩) (by assumption) ?_
      case hq3_20 => intro w hSw; (try dsimp only at hSw); go_simp; try (with_reducible rfl)
      (try simp only [Act.put, qA, qB, qC])
      refine wpAnyH_take (i := 4) (oi := { dst := some 20, op := Op.fieldAddr 33 (Operand.tmp 3) 1, type := 0, pos := "view.go:50", after := #[{ on := 3, ground := Ground.guard }], guard := some (3, true) }) (v := ?vq4_21) rfl (by kernel_rfl) (by kernel_rfl) (by kernel_rfl) (fun _ _ _ h => h) (Or.inl ⟨by rfl, ?hq4_21⟩) (by assumption) ?_
      case hq4_21 => intro w hSw; (try dsimp only at hSw); go_simp; try (with_reducible rfl)
      (try simp only [Act.put, qA, qB, qC])
      refine wpAnyH_take (i := 5) (oi := { dst := some 21, op := Op.load 31 (Operand.tmp 20), type := 31, pos := "view.go:50", after := #[{ on := 4, ground := Ground.data }, { on := 3, ground := Ground.guard }], guard := some (3, true) }) (v := ?vq5_22) rfl (by kernel_rfl) (by kernel_rfl) (by kernel_rfl) (fun _ _ _ h => h) (Or.inl ⟨by rfl, ?hq5_22⟩) (by assumption) ?_
      case hq5_22 => intro w hSw; (try dsimp only at hSw); go_simp; try (with_reducible rfl)
      (try simp only [Act.put, qA, qB, qC])
      refine wpAnyH_take (i := 6) (oi := { dst := some 22, op := Op.call { callee := Callee.builtin Builtin.len, args := #[Operand.tmp 21], argTypes := #[31] }, type := 3, pos := "view.go:50", after := #[{ on := 5, ground := Ground.data }, { on := 3, ground := Ground.guard }], guard := some (3, true) }) (v := ?vq6_23) rfl (by kernel_rfl) (by kernel_rfl) (by kernel_rfl) (fun _ _ _ h => h) (Or.inl ⟨by rfl, ?hq6_23⟩) (by assumption) ?_
      case hq6_23 => intro w hSw; (try dsimp only at hSw); go_simp; try (with_reducible rfl)
      (try simp only [Act.put, qA, qB, qC])
      refine wpAnyH_take (i := 7) (oi := { dst := some 23, op := Op.binOp BinOp.eql 3 (Operand.tmp 22) (Operand.const (Value.int IntKind.i64 0)) 3, type := 4, pos := "view.go:50", after := #[{ on := 6, ground := Ground.data }, { on := 3, ground := Ground.guard }, { on := 9, ground := Ground.gcOnly Departure.lateStores }], guard := some (3, true) }) (v := .bool false) rfl (by kernel_rfl) (by kernel_rfl) (by kernel_rfl) (fun _ _ _ h => h) (Or.inl ⟨by rfl, ?hq7_24⟩) (by assumption) ?_
      case hq7_24 => intro w hSw; (try dsimp only at hSw); go_simp; first | done | (with_reducible rfl) | (have h0 := HL0.out; simp [h0])
      (try simp only [Act.put, qA, qB, qC])
      refine wpAnyH_take (i := 8) (oi := { dst := some 24, op := Op.pick (Operand.tmp 19) (Operand.tmp 23) (Operand.const (Value.bool false)), type := 4, pos := "view.go:50", after := #[{ on := 3, ground := Ground.data }, { on := 7, ground := Ground.data }, { on := 9, ground := Ground.gcOnly Departure.lateStores }], guard := none }) (v := ?vq8_25) rfl (by kernel_rfl) (by kernel_rfl) (by kernel_rfl) (fun _ _ _ h => h) (Or.inl ⟨by rfl, ?hq8_25⟩) (by assumption) ?_
      case hq8_25 => intro w hSw; (try dsimp only at hSw); go_simp; try (with_reducible rfl)
      (try simp only [Act.put, qA, qB, qC])
      refine wpAnyH_ready (rs := [9]) (by kernel_rfl) (by simp) ?_
      refine AllReadyH.cons (o := { dst := none, op := Op.store 46 (Operand.tmp 4) (Operand.tmp 16), type := 0, pos := "view.go:50", after := #[{ on := 0, ground := Ground.data }, { on := 3, ground := Ground.chain }, { on := 0, ground := Ground.phase }, { on := 1, ground := Ground.textOnly Departure.lateStores }, { on := 2, ground := Ground.textOnly Departure.lateStores }, { on := 3, ground := Ground.textOnly Departure.lateStores }, { on := 4, ground := Ground.textOnly Departure.lateStores }, { on := 5, ground := Ground.textOnly Departure.lateStores }, { on := 6, ground := Ground.textOnly Departure.lateStoresUnsure }, { on := 7, ground := Ground.textOnly Departure.lateStores }, { on := 8, ground := Ground.textOnly Departure.lateStores }], guard := none }) rfl (fun K hK => ?_) AllReadyH.nil
      rw [if_pos (by rfl)]
      refine wp_store_box 46 (.tmp 4) (.tmp 16) rfl (N + 1) 0 rfl (.agg #[.int .i64 k1, .string nm1, .slice h1.oa l1.length h1.cap]) rfl [.int .i64 k1, .string nm1, .slice h1.oa l1.length h1.cap] rfl [.int .i64 0, .string ⟨#[]⟩, .slice none 0 0] 46 (show W2.drew.heap[N + 1]? = _ from HX2.out.2) (Nat.le_refl _) (show (Tryz.prog.info? 46).map (·.size) = some 3 by kernel_rfl) ?cb4 (N + 1) (Nat.le_refl _) W2.drew (Below.refl _ _) ?_
      try case cb4 => first | exact ⟨rfl, rfl, rfl⟩ | (intro v hv; simp at hv; rcases hv with rfl | rfl | rfl <;> rfl)
      intro WF hb hbx hoth
      have hnm : M ≠ N + 1 := fun e => by have h1 := HM.out.2.1; have h2 := blk_lt HX.out.2; omega
      have HF := Lib.hid (show Below w.heap.size w WF by rw [← HN.out]; exact HB0.out.trans (((HB2.out.trans (show Below W0.heap.size W2 W2.drew from ⟨rfl, rfl, rfl, Nat.le_refl _, fun _ _ => rfl⟩)).mono (by have := blk_lt HX.out.1; omega) : Below N W0 W2.drew).trans (hb.mono (by omega))))
      have HTF := Lib.hid (show ∃ f, TyH f (ebp WF kf) (.mk k1 nm1 h1 l1) from ⟨f, (TyH.und f _ _ _ (ebp_und (Nat.le_trans HM.out.2.2.1 hb.size) fun z hl hz => by simp at hz; exact ⟨hz.1, (hoth z hz.2.2).trans (HM.out.2.2.2.block z hl)⟩) HT1.out.1)⟩)
      have HFX := Lib.hid hbx
      have HSF := Lib.hid (And.intro ((hoth N (by omega)).trans HX2.out.1) ((hoth M hnm).trans HM.out.1))
      clear hb hbx hoth hnm
      refine hK.out _ _ ?_ (fun hHeld => ?_)
      · exact ⟨(cells2p HSF.out.1).2.1, (cells3p HSF.out.2).1, (cells3p HSF.out.2).2.1, (cells3p HSF.out.2).2.2.1⟩
      clear hK K
      (try simp only [Act.put, qA, qB, qC])
      refine wpAnyH_take (i := 10) (oi := { dst := some 5, op := Op.assign (Operand.tmp 24), type := 4, pos := "view.go:50", after := #[{ on := 8, ground := Ground.data }, { on := 9, ground := Ground.chain }, { on := 0, ground := Ground.phase }, { on := 1, ground := Ground.phase }, { on := 2, ground := Ground.phase }, { on := 3, ground := Ground.phase }, { on := 4, ground := Ground.phase }, { on := 5, ground := Ground.phase }, { on := 6, ground := Ground.phase }, { on := 7, ground := Ground.phase }, { on := 8, ground := Ground.phase }, { on := 9, ground := Ground.phase }], guard := none }) (v := ?vq10_26) rfl (by kernel_rfl) (by kernel_rfl) (by kernel_rfl) (fun _ _ _ h => h) (Or.inl ⟨by rfl, ?hq10_26⟩) (by assumption) ?_
      case hq10_26 => intro w hSw; (try dsimp only at hSw); go_simp; try (with_reducible rfl)
      (try simp only [Act.put, qA, qB, qC])
      refine wpAnyH_done (by kernel_rfl) ?_ _
      obtain ⟨f0, f1, f2, ff, fl⟩ := cells3p HFX.out
      go_wp2
      refine bodyPost_ret (v := .tuple #[.agg #[.int .i64 k1, .string nm1, .slice h1.oa l1.length h1.cap], .bool false]) (by simp [results, Tryz.results144, go_sem, f0, f1, f2]) rfl ⟨HF.out, ?_⟩
      obtain ⟨f9, hf9⟩ := HTF.out
      exact ⟨.mk k1 nm1 h1 l1, f9, by simp only [aloneB]; rw [decide_eq_false HL0.out]; rfl, hf9, fun r hr => by cases hr; exact HT1.out.2.1⟩

end Go.Proofs.YtghkbihgdabamaaGreatDoor

namespace Go.Proofs.YtghkbihgdabamaaGreatDoor
open Go.RowKit


set_option maxRecDepth 100000 in
set_option maxHeartbeats 4000000 in
theorem eqTy_any (F : Nat) (hE : ∀ args w, (callFunc F args).run Tryz.prog w = .ok (.enter F args) w) (g : Ty5 → Ty5 → Bool) (P : World → Ty5 → Prop) (hPb : ∀ w w' x, P w x → Below w.heap.size w w' → P w' x)
    (hF : ∀ x y w, P w x → P w y → Calls Tryz.prog F #[tyV x, tyV y] w fun e w' => e = .returned (.bool (g x y)) ∧ Below w.heap.size w w')
    (ha hb : Hd) (la lb : List Ty5) (w : World) (hA : Row w ha 3 la tyC (P w)) (hB : Row w hb 3 lb tyC (P w)) :
    Calls Tryz.prog 143 #[.slice ha.oa la.length ha.cap, .slice hb.oa lb.length hb.cap, .func (.func F) #[] #[]] w fun e w' => e = .returned (.bool (eqL g la lb)) ∧ Below w.heap.size w w' := by
  obtain ⟨oa, capa⟩ := ha
  obtain ⟨ob, capb⟩ := hb
  obtain ⟨ha1, ha2, ha3, ha4⟩ := hA
  obtain ⟨hb1, hb2, hb3, hb4⟩ := hB
  dsimp only at ha1 ha2 ha3 hb1 hb2 hb3 ⊢
  unfold maxLen at ha2 hb2
  replace ha3 := Lib.hid ha3
  replace ha4 := Lib.hid ha4
  replace hb3 := Lib.hid hb3
  replace hb4 := Lib.hid hb4
  replace hF := Lib.hid hF
  replace hPb := Lib.hid hPb
  obtain ⟨R, hR⟩ : ∃ R, R = eqL g la lb := ⟨_, rfl⟩
  rw [← hR]
  replace hR := Lib.hid hR
  by_cases hl : la.length = lb.length
  · have t0 : ((la.length : Int) != (lb.length : Int)) = false := by simp; omega
    have hll := Lib.hid hl
    have hl1 : la.length ≤ lb.length := by omega
    have hl2 : lb.length ≤ la.length := by omega
    clear hl
    go_enter Tryz.func143, Tryz.ntmps143
    go_wp2_with fail
    go_loopw [17] (fun u wr => ∃ j : Nat, j ≤ la.length ∧ u = .int .i64 j ∧ eqL g (la.drop j) (lb.drop j) = R ∧ Below w.heap.size w wr) (fun u _ => la.length - (intOf u).toNat)
    case atStart => exact ⟨0, by omega, rfl, by simpa using hR.out.symm, Below.refl _ _⟩
    case round =>
      obtain ⟨j, hj, rfl, hs, hbw⟩ := hrel
      have HS := Lib.hid hs
      clear hs
      by_cases hjl : j < la.length
      · have t1 : decide ((j : Int) < la.length) = true := by simp; omega
        obtain ⟨ba, offa, rfl, hxlt, hxc⟩ := ha3.out (by omega)
        obtain ⟨bb, offb, rfl, hylt, hyc⟩ := hb3.out (by omega)
        obtain ⟨x, hx⟩ : ∃ x, la[j]? = some x := ⟨_, List.getElem?_eq_getElem hjl⟩
        obtain ⟨y, hy⟩ : ∃ y, lb[j]? = some y := ⟨_, List.getElem?_eq_getElem (show j < lb.length by omega)⟩
        have hdx : la.drop j = x :: la.drop (j + 1) := by rw [List.drop_eq_getElem_cons hjl]; rw [List.getElem?_eq_getElem hjl] at hx; rw [Option.some.inj hx]
        have hdy : lb.drop j = y :: lb.drop (j + 1) := by
          have hjb : j < lb.length := by omega
          rw [List.drop_eq_getElem_cons hjb]; rw [List.getElem?_eq_getElem hjb] at hy; rw [Option.some.inj hy]
        have HD := Lib.hid (show (g x y && eqL g (la.drop (j + 1)) (lb.drop (j + 1))) = R by rw [← HS.out, hdx, hdy, eqL])
        have hpx := hPb.out _ _ _ (ha4.out x (List.mem_of_getElem? hx)) hbw
        have hpy := hPb.out _ _ _ (hb4.out y (List.mem_of_getElem? hy)) hbw
        have hcall : ∀ W, Below wr.heap.size wr W → Calls Tryz.prog F #[tyV x, tyV y] W fun e w' => e = .returned (.bool (g x y)) ∧ Below W.heap.size W w' := fun W hW => hF.out x y W (hPb.out _ _ _ hpx hW) (hPb.out _ _ _ hpy hW)
        clear hpx hpy hdx hdy
        obtain ⟨bv, hbv⟩ : ∃ b, b = g x y := ⟨_, rfl⟩
        rw [← hbv] at hcall HD
        clear hbv
        obtain ⟨k1, nm1, h1, l1⟩ := x
        obtain ⟨k2, nm2, h2, l2⟩ := y
        simp only [tyV, tyC] at hcall
        replace hcall := Lib.hid hcall
        have gx0 : wr.cell? ⟨ba, offa + j * 3, none⟩ = some (.int .i64 k1) := (hbw.cell (p := ⟨ba, offa + j * 3, none⟩) hxlt).trans (by simpa using hxc j _ hx 0 _ rfl)
        have gx1 : wr.cell? ⟨ba, offa + j * 3 + 1, none⟩ = some (.string nm1) := (hbw.cell (p := ⟨ba, offa + j * 3 + 1, none⟩) hxlt).trans (by simpa using hxc j _ hx 1 _ rfl)
        have gx2 : wr.cell? ⟨ba, offa + j * 3 + 2, none⟩ = some (.slice h1.oa l1.length h1.cap) := (hbw.cell (p := ⟨ba, offa + j * 3 + 2, none⟩) hxlt).trans (by simpa using hxc j _ hx 2 _ rfl)
        have gy0 : ∀ o, (wr.alloc o).cell? ⟨bb, offb + j * 3, none⟩ = some (.int .i64 k2) := fun o => (((alloc_below wr o).cell (p := ⟨bb, offb + j * 3, none⟩) (Nat.lt_of_lt_of_le hylt hbw.size)).trans (hbw.cell (p := ⟨bb, offb + j * 3, none⟩) hylt)).trans (by simpa using hyc j _ hy 0 _ rfl)
        have gy1 : ∀ o, (wr.alloc o).cell? ⟨bb, offb + j * 3 + 1, none⟩ = some (.string nm2) := fun o => (((alloc_below wr o).cell (p := ⟨bb, offb + j * 3 + 1, none⟩) (Nat.lt_of_lt_of_le hylt hbw.size)).trans (hbw.cell (p := ⟨bb, offb + j * 3 + 1, none⟩) hylt)).trans (by simpa using hyc j _ hy 1 _ rfl)
        have gy2 : ∀ o, (wr.alloc o).cell? ⟨bb, offb + j * 3 + 2, none⟩ = some (.slice h2.oa l2.length h2.cap) := fun o => (((alloc_below wr o).cell (p := ⟨bb, offb + j * 3 + 2, none⟩) (Nat.lt_of_lt_of_le hylt hbw.size)).trans (hbw.cell (p := ⟨bb, offb + j * 3 + 2, none⟩) hylt)).trans (by simpa using hyc j _ hy 2 _ rfl)
        clear hx hy hxc hyc
        have hsz := hbw.size
        cases bv with
        | true =>
          go_wp2_with (go_at_fn F; refine (hcall.out _ (((Below.refl _ _).alloc (Nat.le_refl _) _).alloc (by simp) _)).mono ?_; rintro e w1 ⟨rfl, hb1⟩; have B1 : Below wr.heap.size wr w1 := (((Below.refl _ _).alloc (Nat.le_refl _) _).alloc (by simp) _).trans (hb1.mono (by simp; omega)); clear hb1; replace B1 := Lib.hid B1)
          go_roundw
          case rel => exact ⟨j + 1, by omega, by go_num, by simpa using HD.out, hbw.trans (B1.out.mono hbw.size)⟩
          case measure => simp [intOf]; omega
        | false =>
          go_wp2_with (go_at_fn F; refine (hcall.out _ (((Below.refl _ _).alloc (Nat.le_refl _) _).alloc (by simp) _)).mono ?_; rintro e w1 ⟨rfl, hb1⟩; have B1 : Below wr.heap.size wr w1 := (((Below.refl _ _).alloc (Nat.le_refl _) _).alloc (by simp) _).trans (hb1.mono (by simp; omega)); clear hb1; replace B1 := Lib.hid B1)
          go_ret
          exact ⟨by rw [← HD.out]; first | done | rfl, hbw.trans (B1.out.mono hbw.size)⟩
      · have t1 : decide ((j : Int) < la.length) = false := by simp; omega
        obtain rfl : j = la.length := by omega
        have HZ := Lib.hid (show true = R by rw [← HS.out, List.drop_length, List.drop_eq_nil_of_le hl2]; rfl)
        go_wp2
        go_ret
        exact ⟨by rw [← HZ.out]; first | done | rfl, hbw⟩
  · have t0 : ((la.length : Int) != (lb.length : Int)) = true := by simp; omega
    have HZ := Lib.hid (show false = R by rw [hR.out, eqL_len g hl])
    clear hl
    go_enter Tryz.func143, Tryz.ntmps143
    go_wp2_with fail
    go_ret
    exact ⟨by rw [← HZ.out]; first | done | rfl, Below.refl _ _⟩



end Go.Proofs.YtghkbihgdabamaaGreatDoor

namespace Go.Proofs.YtghkbihgdabamaaGreatDoor
open Go.RowKit

theorem strq_eq (s t : ByteArray) : (s.toList == t.toList) = decide (s = t) := by
  rw [Bool.eq_iff_iff, beq_iff_eq, decide_eq_true_eq, Lib.toList_data, Lib.toList_data]
  refine ⟨fun h => ?_, fun h => by rw [h]⟩
  rw [← strB_of s, ← strB_of t, bs, bs, h]

theorem entersq96 (args : Array Value) (w : World) : (callFunc 122 args).run Tryz.prog w = .ok (.enter 122 args) w := Go.Proofs.enters_of Tryz.func122 (by kernel_rfl) rfl args w
end Go.Proofs.YtghkbihgdabamaaGreatDoor

namespace Go.Proofs.YtghkbihgdabamaaGreatDoor
open Go.RowKit

set_option maxRecDepth 100000 in
set_option maxHeartbeats 4000000 in
theorem sameType_step (n : Nat) (ih : ∀ (x y : Ty5) (w : World), TyH n w x → TyH n w y → Calls Tryz.prog 122 #[tyV x, tyV y] w fun e w' => e = .returned (.bool (tyEq x y)) ∧ Below w.heap.size w w') (a b : Ty5) (w : World) (hA : TyH (n + 1) w a) (hB : TyH (n + 1) w b) : Calls Tryz.prog 122 #[tyV a, tyV b] w fun e w' => e = .returned (.bool (tyEq a b)) ∧ Below w.heap.size w w' := by
  obtain ⟨k1, nm1, h1, l1⟩ := a
  obtain ⟨k2, nm2, h2, l2⟩ := b
  obtain ⟨R, hR⟩ : ∃ R, R = tyEq (.mk k1 nm1 h1 l1) (.mk k2 nm2 h2 l2) := ⟨_, rfl⟩
  rw [← hR]
  replace hR : R = (decide (k1 = k2) && decide (nm1 = nm2) && eqL tyEq l1 l2) := hR.trans (by rw [tyEq, tysEq_eq])
  have t0 : (k1 == k2) = decide (k1 = k2) := by rw [Bool.eq_iff_iff]; simp
  have t1 := strq_eq nm1 nm2
  have hc2 : ∀ W, Below w.heap.size w W → Calls Tryz.prog 143 #[.slice h1.oa l1.length h1.cap, .slice h2.oa l2.length h2.cap, .func (.func 122) #[] #[]] W fun e w' => e = .returned (.bool (eqL tyEq l1 l2)) ∧ Below W.heap.size W w' := fun W hW => eqTy_any 122 entersq96 tyEq (TyH n) (fun _ _ _ h hb => TyH.below n h hb) ih h1 h2 l1 l2 W (hA.2.below hW fun _ _ hx => TyH.below n hx hW) (hB.2.below hW fun _ _ hx => TyH.below n hx hW)
  obtain ⟨b0, hb0⟩ : ∃ b, b = (decide (k1 = k2)) := ⟨_, rfl⟩
  rw [← hb0] at hR t0
  clear hb0
  obtain ⟨b1, hb1⟩ : ∃ b, b = (decide (nm1 = nm2)) := ⟨_, rfl⟩
  rw [← hb1] at hR t1
  clear hb1
  obtain ⟨b2, hb2⟩ : ∃ b, b = (eqL tyEq l1 l2) := ⟨_, rfl⟩
  rw [← hb2] at hR hc2
  clear hb2
  replace hc2 := Lib.hid hc2
  simp only [tyV, tyC]
  obtain ⟨W0, hW0⟩ : ∃ W, W = ((w.alloc (.cells #[.int .i64 k1, .string nm1, .slice h1.oa l1.length h1.cap] 46)).alloc (.cells #[.int .i64 k2, .string nm2, .slice h2.oa l2.length h2.cap] 46)) := ⟨_, rfl⟩
  have HW0 : Below w.heap.size w W0 := by rw [hW0]; exact (((Below.refl _ _).alloc (Nat.le_refl _) _).alloc (by simp) _)
  replace HW0 := Lib.hid HW0
  cases b0 with
  | false =>
    have HR := Lib.hid (show R = false by rw [hR]; rfl)
    clear hR
    go_enter Tryz.func122, Tryz.ntmps122
    go_wp2_with fail
    go_ret
    exact ⟨by rw [HR.out]; first | done | rfl, (by rw [← hW0]; exact HW0.out)⟩
  | true =>
  cases b1 with
  | false =>
    have HR := Lib.hid (show R = false by rw [hR]; rfl)
    clear hR
    go_enter Tryz.func122, Tryz.ntmps122
    go_wp2_with fail
    go_ret
    exact ⟨by rw [HR.out]; first | done | rfl, (by rw [← hW0]; exact HW0.out)⟩
  | true =>
  cases b2 with
  | false =>
    have HR := Lib.hid (show R = false by rw [hR]; rfl)
    clear hR
    go_enter Tryz.func122, Tryz.ntmps122
    go_wp2_with fail
    rw [← hW0]
    clear hW0
    refine (hc2.out _ HW0.out).mono ?_
    rintro e w1 ⟨rfl, hb1⟩
    have B1 := Lib.hid (HW0.out.trans (hb1.mono HW0.out.size))
    have K1 := Lib.hid hb1
    clear hb1
    go_wp2_with fail
    go_ret
    exact ⟨by rw [HR.out]; first | done | rfl, B1.out⟩
  | true =>
  have HR := Lib.hid (show R = true by rw [hR]; rfl)
  clear hR
  go_enter Tryz.func122, Tryz.ntmps122
  go_wp2_with fail
  rw [← hW0]
  clear hW0
  refine (hc2.out _ HW0.out).mono ?_
  rintro e w1 ⟨rfl, hb1⟩
  have B1 := Lib.hid (HW0.out.trans (hb1.mono HW0.out.size))
  have K1 := Lib.hid hb1
  clear hb1
  go_wp2_with fail
  go_ret
  exact ⟨by rw [HR.out]; first | done | rfl, B1.out⟩

theorem sameType_any : ∀ (n : Nat) (a b : Ty5) (w : World), TyH n w a → TyH n w b → Calls Tryz.prog 122 #[tyV a, tyV b] w fun e w' => e = .returned (.bool (tyEq a b)) ∧ Below w.heap.size w w'
  | 0, _, _, _, h, _ => h.elim
  | n + 1, a, b, w, hA, hB => sameType_step n (sameType_any n) a b w hA hB

end Go.Proofs.YtghkbihgdabamaaGreatDoor

namespace Go.Proofs.YtghkbihgdabamaaGreatDoor
open Go.RowKit

mutual
theorem tyEq_er : ∀ (a b : Ty5), tyEq (erTy a) (erTy b) = tyEq a b
  | .mk k nm _ l, .mk k' nm' _ l' => by rw [erTy, erTy, tyEq, tyEq, tysEq_er l l']
theorem tysEq_er : ∀ (a b : List Ty5), tysEq (erTys a) (erTys b) = tysEq a b
  | [], [] => by rw [erTys]
  | [], _ :: _ => by rw [erTys, erTys, tysEq, tysEq] <;> simp
  | _ :: _, [] => by rw [erTys, erTys, tysEq, tysEq] <;> simp
  | x :: a, y :: b => by rw [erTys, erTys, tysEq, tysEq, tyEq_er x y, tysEq_er a b]
end
def isOfB (s : So5) (m : Nat) (x d : Ty5) : Bool := ((resO s m d).1 == 0) && tyEq (erTy x) (resO s m d).2
set_option maxRecDepth 100000 in
set_option maxHeartbeats 40000000 in
theorem isOf_any (m m' mx : Nat) (s : So5) (b : Bo) (v : Nat) (x d : Ty5) (w : World) (hs : SoH m' w s) (hv : ViewAt w v s b) (hx : TyH mx w x) (hd : TyH m w d) (hdn : tyN d ≤ 1000000) :
    Calls Tryz.prog 92 #[.pointer (some ⟨v, 0, none⟩), tyV x, tyV d] w fun e w' => e = .returned (.bool (isOfB s m x d)) ∧ Below w.heap.size w w' := by
  obtain ⟨R, hR⟩ : ∃ R, R = resO s m d := ⟨_, rfl⟩
  rw [isOfB, ← hR]
  have hrs : ∀ W, Below w.heap.size w W → Calls Tryz.prog 83 #[soV s, tyV d] W fun e w' => Below W.heap.size W w' ∧ ResP m W.heap.size w' R e := fun W hW => by rw [hR]; exact resolve_any m m' s d W (SoH.below hs hW) (TyH.below m hd hW) hdn
  have HSM := Lib.hid (show ∀ (y : Ty5) (f : Nat) W, Below w.heap.size w W → TyH f W y → Calls Tryz.prog 122 #[tyV x, tyV y] W fun e w' => e = .returned (.bool (tyEq x y)) ∧ Below W.heap.size W w' from fun y f W hW hy => sameType_any (max mx f) x y W (TyH.le (Nat.le_max_left _ _) (TyH.below mx hx hW)) (TyH.le (Nat.le_max_right _ _) hy))
  obtain ⟨n1, hn1⟩ : ∃ k, s.structs.length = k := ⟨_, rfl⟩
  obtain ⟨n2, hn2⟩ : ∃ k, s.enums.length = k := ⟨_, rfl⟩
  obtain ⟨n3, hn3⟩ : ∃ k, s.fns.length = k := ⟨_, rfl⟩
  obtain ⟨o1, c1, hh1⟩ : ∃ o c, s.hs = ⟨o, c⟩ := ⟨_, _, rfl⟩
  obtain ⟨o2, c2, hh2⟩ : ∃ o c, s.he = ⟨o, c⟩ := ⟨_, _, rfl⟩
  obtain ⟨o3, c3, hh3⟩ : ∃ o c, s.hf = ⟨o, c⟩ := ⟨_, _, rfl⟩
  unfold ViewAt at hv
  rw [soV_hd] at hrs
  obtain ⟨dk, dm, dh, dl⟩ := d
  obtain ⟨xk, xm, xh, xl⟩ := x
  simp only [tyV, tyC, hh1, hh2, hh3, hn1, hn2, hn3] at hrs hv HSM ⊢
  have HVW := Lib.hid (show ∀ W, Below w.heap.size w W → W.heap[v]? = _ from fun W hW => (hW.block v (blk_lt hv)).trans hv)
  have HRS := Lib.hid hrs
  obtain ⟨W0, hW⟩ : ∃ W, W = (w.alloc (.cells #[.int .i64 xk, .string xm, .slice xh.oa xl.length xh.cap] 46)).alloc (.cells #[.int .i64 dk, .string dm, .slice dh.oa dl.length dh.cap] 46) := ⟨_, rfl⟩
  obtain ⟨hb0, hx0, hx1⟩ := pal2 w (.cells #[.int .i64 xk, .string xm, .slice xh.oa xl.length xh.cap] 46) (.cells #[.int .i64 dk, .string dm, .slice dh.oa dl.length dh.cap] 46)
  rw [← hW] at hb0 hx0 hx1
  obtain ⟨N, hN⟩ : ∃ N, N = w.heap.size := ⟨_, rfl⟩
  rw [← hN] at hx0 hx1
  have HX := Lib.hid (And.intro hx0 hx1)
  have HB0 := Lib.hid hb0
  have HN := Lib.hid hN
  clear hx0 hx1 hb0 hrs hv hs hx hd hdn hR hn1 hn2 hn3 hh1 hh2 hh3
  go_enter Tryz.func92, Tryz.ntmps92
  go_upto_region 1 with fail
  rw [← hW]
  clear hW
  try simp only [← hN]
  clear hN
  obtain ⟨v0, v1, v2, v3, v4, v5, v6, vl⟩ := cells7 (HVW.out W0 HB0.out)
  obtain ⟨y0, y1, y2, yf, yl⟩ := cells3p HX.out.2
  go_wp2_with fail
  refine wp_region_held_drew (S := (fun w' => w'.cell? ⟨v, 0, none⟩ = some (.slice o1 n1 c1) ∧ w'.cell? ⟨v, 1, none⟩ = some (.slice o2 n2 c2) ∧ w'.cell? ⟨v, 2, none⟩ = some (.slice o3 n3 c3) ∧ w'.cell? ⟨N + 1, 0, none⟩ = some (.int .i64 dk) ∧ w'.cell? ⟨N + 1, 1, none⟩ = some (.string dm) ∧ w'.cell? ⟨N + 1, 2, none⟩ = some (.slice dh.oa dl.length dh.cap))) (by kernel_rfl) ?_ (fun hHeld => ?_)
  · exact ⟨v0, v1, v2, y0, y1, y2⟩
  clear v0 v1 v2 v3 v4 v5 v6 vl y0 y1 y2 yf yl
  refine wpAnyH_take (i := 0) (oi := { dst := some 10, op := Op.move (Operand.tmp 0), type := 85, pos := "value.go:159", after := #[], guard := none }) (v := ?vq0_1) rfl (by kernel_rfl) (by kernel_rfl) (by kernel_rfl) (fun _ _ _ h => h) (Or.inl ⟨by rfl, ?hq0_1⟩) (by assumption) ?_
  case hq0_1 => intro w hSw; (try dsimp only at hSw); go_simp; try (with_reducible rfl)
  (try simp only [Act.put, qA, qB, qC])
  refine wpAnyH_take (i := 1) (oi := { dst := some 11, op := Op.nilCheck (Operand.tmp 10), type := 0, pos := "value.go:159", after := #[{ on := 0, ground := Ground.data }], guard := none }) (v := ?vq1_2) rfl (by kernel_rfl) (by kernel_rfl) (by kernel_rfl) (fun _ _ _ h => h) (Or.inl ⟨by rfl, ?hq1_2⟩) (by assumption) ?_
  case hq1_2 => intro w hSw; (try dsimp only at hSw); go_simp; try (with_reducible rfl)
  (try simp only [Act.put, qA, qB, qC])
  refine wpAnyH_take (i := 2) (oi := { dst := some 12, op := Op.fieldAddr 87 (Operand.tmp 11) 0, type := 0, pos := "value.go:159", after := #[{ on := 1, ground := Ground.data }], guard := none }) (v := ?vq2_3) rfl (by kernel_rfl) (by kernel_rfl) (by kernel_rfl) (fun _ _ _ h => h) (Or.inl ⟨by rfl, ?hq2_3⟩) (by assumption) ?_
  case hq2_3 => intro w hSw; (try dsimp only at hSw); go_simp; try (with_reducible rfl)
  (try simp only [Act.put, qA, qB, qC])
  refine wpAnyH_take (i := 3) (oi := { dst := some 13, op := Op.load 26 (Operand.tmp 12), type := 26, pos := "value.go:159", after := #[{ on := 2, ground := Ground.data }], guard := none }) (v := ?vq3_4) rfl (by kernel_rfl) (by kernel_rfl) (by kernel_rfl) (fun _ _ _ h => h) (Or.inl ⟨by rfl, ?hq3_4⟩) (by assumption) ?_
  case hq3_4 => intro w hSw; (try dsimp only at hSw); go_simp; try (with_reducible rfl)
  (try simp only [Act.put, qA, qB, qC])
  refine wpAnyH_take (i := 4) (oi := { dst := some 14, op := Op.load 46 (Operand.tmp 5), type := 46, pos := "value.go:159", after := #[], guard := none }) (v := ?vq4_5) rfl (by kernel_rfl) (by kernel_rfl) (by kernel_rfl) (fun _ _ _ h => h) (Or.inl ⟨by rfl, ?hq4_5⟩) (by assumption) ?_
  case hq4_5 => intro w hSw; (try dsimp only at hSw); go_simp; try (with_reducible rfl)
  (try simp only [Act.put, qA, qB, qC])
  refine wpAnyH_ready (rs := [5, 9]) (by kernel_rfl) (by simp) ?_
  refine AllReadyH.cons (o := { dst := some 15, op := Op.call { callee := Callee.value (Operand.func 83), args := #[Operand.tmp 13, Operand.tmp 14], argTypes := #[26, 46] }, type := 51, pos := "value.go:159", after := #[{ on := 3, ground := Ground.data }, { on := 4, ground := Ground.data }], guard := none }) rfl (fun K hK => ?_) (AllReadyH.cons (o := { dst := some 7, op := Op.alloc 46, type := 0, pos := "value.go:159", after := #[], guard := none }) rfl (fun K hK => ?_) AllReadyH.nil)
  · go_simp
    refine (HRS.out W0.drew (HB0.out.trans ⟨rfl, rfl, rfl, Nat.le_refl _, fun _ _ => rfl⟩)).mono ?_
    rintro e W4 ⟨hb4, hp4⟩
    obtain ⟨kk, nn, oa, mm, cc, he⟩ := hp4.val
    subst he
    have HB4 := Lib.hid (show Below W0.heap.size W0 W4 from (show Below W0.heap.size W0 W0.drew from ⟨rfl, rfl, rfl, Nat.le_refl _, fun _ _ => rfl⟩).trans hb4)
    have HP4 := Lib.hid (show ResP m W0.heap.size W4 R (.returned (.tuple #[.agg #[.int .i64 kk, .string nn, .slice oa mm cc], .int .i64 R.1])) from hp4)
    have HBW4 := Lib.hid (HB0.out.trans (HB4.out.mono HB0.out.size))
    clear hb4 hp4
    refine hK.out _ _ ?_ (fun hHeld => ?_)
    · obtain ⟨v0, v1, v2, v3, v4, v5, v6, vl⟩ := cells7 (HVW.out W4 HBW4.out)
      obtain ⟨y0, y1, y2, yf, yl⟩ := cells3p ((HB4.out.block (N + 1) (blk_lt HX.out.2)).trans HX.out.2)
      exact ⟨v0, v1, v2, y0, y1, y2⟩
    clear hK K
    (try simp only [Act.put, qA, qB, qC])
    refine wpAnyH_take (i := 6) (oi := { dst := some 9, op := Op.move (Operand.tmp 15), type := 51, pos := "value.go:159", after := #[{ on := 5, ground := Ground.data }], guard := none }) (v := ?vq6_6) rfl (by kernel_rfl) (by kernel_rfl) (by kernel_rfl) (fun _ _ _ h => h) (Or.inl ⟨by rfl, ?hq6_6⟩) (by assumption) ?_
    case hq6_6 => intro w hSw; (try dsimp only at hSw); go_simp; try (with_reducible rfl)
    (try simp only [Act.put, qA, qB, qC])
    refine wpAnyH_take (i := 7) (oi := { dst := some 16, op := Op.extract (Operand.tmp 9) 0, type := 46, pos := "value.go:159", after := #[{ on := 6, ground := Ground.data }], guard := none }) (v := ?vq7_7) rfl (by kernel_rfl) (by kernel_rfl) (by kernel_rfl) (fun _ _ _ h => h) (Or.inl ⟨by rfl, ?hq7_7⟩) (by assumption) ?_
    case hq7_7 => intro w hSw; (try dsimp only at hSw); go_simp; try (with_reducible rfl)
    (try simp only [Act.put, qA, qB, qC])
    refine wpAnyH_take (i := 8) (oi := { dst := some 17, op := Op.extract (Operand.tmp 9) 1, type := 47, pos := "value.go:159", after := #[{ on := 6, ground := Ground.data }, { on := 10, ground := Ground.gcOnly Departure.lateStores }], guard := none }) (v := ?vq8_8) rfl (by kernel_rfl) (by kernel_rfl) (by kernel_rfl) (fun _ _ _ h => h) (Or.inl ⟨by rfl, ?hq8_8⟩) (by assumption) ?_
    case hq8_8 => intro w hSw; (try dsimp only at hSw); go_simp; try (with_reducible rfl)
    (try simp only [Act.put, qA, qB, qC])
    refine wpAnyH_ready (rs := [9]) (by kernel_rfl) (by simp) ?_
    refine AllReadyH.cons (o := { dst := some 7, op := Op.alloc 46, type := 0, pos := "value.go:159", after := #[], guard := none }) rfl (fun K hK => ?_) AllReadyH.nil
    go_simp
    obtain ⟨M, hM⟩ : ∃ M, M = W4.heap.size := ⟨_, rfl⟩
    obtain ⟨W6, hW6⟩ : ∃ W, W = W4.alloc (.cells #[.int .i64 0, .string ⟨#[]⟩, .slice none 0 0] 46) := ⟨_, rfl⟩
    rw [← hW6]
    have HM := Lib.hid (show W6.heap[M]? = some (.cells #[.int .i64 0, .string ⟨#[]⟩, .slice none 0 0] 46) ∧ W0.heap.size ≤ M ∧ Below W0.heap.size W0 W6 ∧ (∀ W5 : World, W6.heap.size ≤ W5.heap.size → (∀ x, x ≠ M → W5.heap[x]? = W6.heap[x]?) → ResP m W0.heap.size W5 R (.returned (.tuple #[.agg #[.int .i64 kk, .string nn, .slice oa mm cc], .int .i64 R.1]))) from by
      subst hW6
      subst hM
      refine ⟨heap_alloc_new _ _, HB4.out.size, HB4.out.alloc HB4.out.size _, fun W5 h1 h2 => HP4.out.keep (eb_und (by simp at h1; omega) fun y hy h3 h4 => ⟨h3, h4, (h2 y (by omega)).trans ((alloc_below W4 _).block y hy)⟩)⟩)
    have HBW6 := Lib.hid (HB0.out.trans (HM.out.2.2.1.mono HB0.out.size))
    try simp only [← hM]
    clear hM hW6
    refine hK.out _ _ ?_ (fun hHeld => ?_)
    · obtain ⟨v0, v1, v2, v3, v4, v5, v6, vl⟩ := cells7 (HVW.out W6 HBW6.out)
      obtain ⟨y0, y1, y2, yf, yl⟩ := cells3p ((HM.out.2.2.1.block (N + 1) (blk_lt HX.out.2)).trans HX.out.2)
      exact ⟨v0, v1, v2, y0, y1, y2⟩
    clear hK K
    (try simp only [Act.put, qA, qB, qC])
    refine wpAnyH_ready (rs := [10]) (by kernel_rfl) (by simp) ?_
    refine AllReadyH.cons (o := { dst := none, op := Op.store 46 (Operand.tmp 7) (Operand.tmp 16), type := 0, pos := "value.go:159", after := #[{ on := 9, ground := Ground.data }, { on := 7, ground := Ground.data }, { on := 5, ground := Ground.chain }, { on := 0, ground := Ground.phase }, { on := 1, ground := Ground.phase }, { on := 2, ground := Ground.phase }, { on := 3, ground := Ground.phase }, { on := 4, ground := Ground.phase }, { on := 5, ground := Ground.phase }, { on := 6, ground := Ground.phase }, { on := 7, ground := Ground.phase }, { on := 8, ground := Ground.textOnly Departure.lateStores }, { on := 9, ground := Ground.phase }], guard := none }) rfl (fun K hK => ?_) AllReadyH.nil
    rw [if_pos (by rfl)]
    refine wp_store_box 46 (.tmp 7) (.tmp 16) rfl M 0 rfl (.agg #[.int .i64 kk, .string nn, .slice oa mm cc]) rfl [.int .i64 kk, .string nn, .slice oa mm cc] rfl [.int .i64 0, .string ⟨#[]⟩, .slice none 0 0] 46 HM.out.1 (Nat.le_refl _) (show (Tryz.prog.info? 46).map (·.size) = some 3 by kernel_rfl) ?cs1a M (Nat.le_refl _) W6 (Below.refl _ _) ?_
    try case cs1a => first | exact ⟨rfl, rfl, rfl⟩ | (intro v hv; simp at hv; rcases hv with rfl | rfl | rfl <;> rfl)
    intro W5 hb5 hbx hoth
    have HB5 := Lib.hid (show Below W0.heap.size W0 W5 from HM.out.2.2.1.trans (hb5.mono HM.out.2.1))
    have HBW5 := Lib.hid (HB0.out.trans (HB5.out.mono HB0.out.size))
    have HP5 := Lib.hid (show ResP m W0.heap.size W5 R (.returned (.tuple #[.agg #[.int .i64 kk, .string nn, .slice oa mm cc], .int .i64 R.1])) from HM.out.2.2.2 W5 hb5.size hoth)
    have HM5 := Lib.hid (And.intro hbx HM.out.2.1)
    clear hb5 hbx hoth HM
    refine hK.out _ _ ?_ (fun hHeld => ?_)
    · obtain ⟨v0, v1, v2, v3, v4, v5, v6, vl⟩ := cells7 (HVW.out W5 HBW5.out)
      obtain ⟨y0, y1, y2, yf, yl⟩ := cells3p ((HB5.out.block (N + 1) (blk_lt HX.out.2)).trans HX.out.2)
      exact ⟨v0, v1, v2, y0, y1, y2⟩
    clear hK K
    (try simp only [Act.put, qA, qB, qC])
    refine wpAnyH_take (i := 11) (oi := { dst := some 8, op := Op.assign (Operand.tmp 17), type := 47, pos := "value.go:159", after := #[{ on := 8, ground := Ground.data }, { on := 10, ground := Ground.chain }, { on := 0, ground := Ground.phase }, { on := 1, ground := Ground.phase }, { on := 2, ground := Ground.phase }, { on := 3, ground := Ground.phase }, { on := 4, ground := Ground.phase }, { on := 5, ground := Ground.phase }, { on := 6, ground := Ground.phase }, { on := 7, ground := Ground.phase }, { on := 8, ground := Ground.phase }, { on := 9, ground := Ground.phase }, { on := 10, ground := Ground.phase }], guard := none }) (v := ?vq11_9) rfl (by kernel_rfl) (by kernel_rfl) (by kernel_rfl) (fun _ _ _ h => h) (Or.inl ⟨by rfl, ?hq11_9⟩) (by assumption) ?_
    case hq11_9 => intro w hSw; (try dsimp only at hSw); go_simp; try (with_reducible rfl)
    (try simp only [Act.put, qA, qB, qC])
    refine wpAnyH_done (by kernel_rfl) ?_ _
    obtain ⟨er, R2⟩ := R
    cases e1 : (er == 0) with
    | false =>
      go_wp2
      go_ret
      exact ⟨by simp [e1], HBW5.out⟩
    | true =>
      have h0 : er = 0 := by simpa using e1
      subst h0
      have hp := HP5.out
      unfold ResP at hp
      rw [if_pos rfl] at hp
      obtain ⟨⟨yk, ym, yh, yl⟩, hy1, hy2, hy3⟩ := hp
      simp only [tyV, tyC, Ending.returned.injEq, Value.tuple.injEq, Array.mk.injEq, List.cons.injEq, Value.agg.injEq, Value.int.injEq, Value.string.injEq, Value.slice.injEq, and_true, true_and] at hy1
      obtain ⟨rfl, rfl, rfl, rfl, rfl⟩ := hy1
      have hsm := HSM.out (.mk kk nn yh yl) m W5 HBW5.out (TyH.und m _ _ _ (eb_whole W5 W0.heap.size none) hy3)
      simp only [tyV, tyC] at hsm
      have HSE := Lib.hid hsm
      have hee : tyEq (erTy (.mk xk xm xh xl)) R2 = tyEq (.mk xk xm xh xl) (.mk kk nn yh yl) := by have h9 := tyEq_er (.mk xk xm xh xl) (.mk kk nn yh yl); rw [show erTy (.mk kk nn yh yl) = R2 from hy2] at h9; exact h9
      have HEE := Lib.hid hee
      clear hsm hy2 hy3 hee e1
      obtain ⟨m0, m1, m2, mf, ml⟩ := cells3p HM5.out.1
      obtain ⟨z0, z1, z2, zf, zl⟩ := cells3p ((HB5.out.block N (blk_lt HX.out.1)).trans HX.out.1)
      go_wp2_with (go_at_call 122; refine HSE.out.mono ?_; rintro e W6 ⟨rfl, hb6⟩; have HB6 := Lib.hid (HBW5.out.trans (hb6.mono HBW5.out.size)); clear hb6)
      go_ret
      exact ⟨by rw [HEE.out]; first | done | rfl | simp, HB6.out⟩
  · go_simp
    obtain ⟨M, hM⟩ : ∃ M, M = W0.heap.size := ⟨_, rfl⟩
    obtain ⟨W4, hW4⟩ : ∃ W, W = (W0.alloc (.cells #[.int .i64 0, .string ⟨#[]⟩, .slice none 0 0] 46)).drew := ⟨_, rfl⟩
    rw [← hW4]
    have HM4 := Lib.hid (show W4.heap[M]? = some (.cells #[.int .i64 0, .string ⟨#[]⟩, .slice none 0 0] 46) ∧ W0.heap.size ≤ M ∧ Below W0.heap.size W0 W4 ∧ M < W4.heap.size from by
      subst hW4
      subst hM
      exact ⟨heap_alloc_new W0 _, Nat.le_refl _, (alloc_below W0 (.cells #[.int .i64 0, .string ⟨#[]⟩, .slice none 0 0] 46)).trans ⟨rfl, rfl, rfl, Nat.le_refl _, fun _ _ => rfl⟩, blk_lt (heap_alloc_new W0 (.cells #[.int .i64 0, .string ⟨#[]⟩, .slice none 0 0] 46))⟩)
    have HBW4 := Lib.hid (HB0.out.trans (HM4.out.2.2.1.mono HB0.out.size))
    try simp only [← hM]
    clear hM hW4
    refine hK.out _ _ ?_ (fun hHeld => ?_)
    · obtain ⟨v0, v1, v2, v3, v4, v5, v6, vl⟩ := cells7 (HVW.out W4 HBW4.out)
      obtain ⟨y0, y1, y2, yf, yl⟩ := cells3p ((HM4.out.2.2.1.block (N + 1) (blk_lt HX.out.2)).trans HX.out.2)
      exact ⟨v0, v1, v2, y0, y1, y2⟩
    clear hK K
    (try simp only [Act.put, qA, qB, qC])
    refine wpAnyH_ready (rs := [5]) (by kernel_rfl) (by simp) ?_
    refine AllReadyH.cons (o := { dst := some 15, op := Op.call { callee := Callee.value (Operand.func 83), args := #[Operand.tmp 13, Operand.tmp 14], argTypes := #[26, 46] }, type := 51, pos := "value.go:159", after := #[{ on := 3, ground := Ground.data }, { on := 4, ground := Ground.data }], guard := none }) rfl (fun K hK => ?_) AllReadyH.nil
    go_simp
    refine (HRS.out W4 (HBW4.out)).mono ?_
    rintro e W6 ⟨hb4, hp4⟩
    obtain ⟨kk, nn, oa, mm, cc, he⟩ := hp4.val
    subst he
    have HM := Lib.hid (show W6.heap[M]? = some (.cells #[.int .i64 0, .string ⟨#[]⟩, .slice none 0 0] 46) ∧ W0.heap.size ≤ M ∧ Below W0.heap.size W0 W6 ∧ (∀ W5 : World, W6.heap.size ≤ W5.heap.size → (∀ x, x ≠ M → W5.heap[x]? = W6.heap[x]?) → ResP m W0.heap.size W5 R (.returned (.tuple #[.agg #[.int .i64 kk, .string nn, .slice oa mm cc], .int .i64 R.1]))) from
      ⟨(hb4.block M HM4.out.2.2.2).trans HM4.out.1, HM4.out.2.1, HM4.out.2.2.1.trans (hb4.mono HM4.out.2.2.1.size), fun W5 h1 h2 => hp4.keep (eb_und h1 fun y hy h3 h4 => ⟨Nat.le_trans HM4.out.2.2.1.size h3, h4, h2 y (fun e => by have := HM4.out.2.2.2; omega)⟩)⟩)
    have HBW6 := Lib.hid (HB0.out.trans (HM.out.2.2.1.mono HB0.out.size))
    clear hb4 hp4 HM4
    refine hK.out _ _ ?_ (fun hHeld => ?_)
    · obtain ⟨v0, v1, v2, v3, v4, v5, v6, vl⟩ := cells7 (HVW.out W6 HBW6.out)
      obtain ⟨y0, y1, y2, yf, yl⟩ := cells3p ((HM.out.2.2.1.block (N + 1) (blk_lt HX.out.2)).trans HX.out.2)
      exact ⟨v0, v1, v2, y0, y1, y2⟩
    clear hK K
    (try simp only [Act.put, qA, qB, qC])
    refine wpAnyH_take (i := 6) (oi := { dst := some 9, op := Op.move (Operand.tmp 15), type := 51, pos := "value.go:159", after := #[{ on := 5, ground := Ground.data }], guard := none }) (v := ?vq6_10) rfl (by kernel_rfl) (by kernel_rfl) (by kernel_rfl) (fun _ _ _ h => h) (Or.inl ⟨by rfl, ?hq6_10⟩) (by assumption) ?_
    case hq6_10 => intro w hSw; (try dsimp only at hSw); go_simp; try (with_reducible rfl)
    (try simp only [Act.put, qA, qB, qC])
    refine wpAnyH_take (i := 7) (oi := { dst := some 16, op := Op.extract (Operand.tmp 9) 0, type := 46, pos := "value.go:159", after := #[{ on := 6, ground := Ground.data }], guard := none }) (v := ?vq7_11) rfl (by kernel_rfl) (by kernel_rfl) (by kernel_rfl) (fun _ _ _ h => h) (Or.inl ⟨by rfl, ?hq7_11⟩) (by assumption) ?_
    case hq7_11 => intro w hSw; (try dsimp only at hSw); go_simp; try (with_reducible rfl)
    (try simp only [Act.put, qA, qB, qC])
    refine wpAnyH_take (i := 8) (oi := { dst := some 17, op := Op.extract (Operand.tmp 9) 1, type := 47, pos := "value.go:159", after := #[{ on := 6, ground := Ground.data }, { on := 10, ground := Ground.gcOnly Departure.lateStores }], guard := none }) (v := ?vq8_12) rfl (by kernel_rfl) (by kernel_rfl) (by kernel_rfl) (fun _ _ _ h => h) (Or.inl ⟨by rfl, ?hq8_12⟩) (by assumption) ?_
    case hq8_12 => intro w hSw; (try dsimp only at hSw); go_simp; try (with_reducible rfl)
    (try simp only [Act.put, qA, qB, qC])
    refine wpAnyH_ready (rs := [10]) (by kernel_rfl) (by simp) ?_
    refine AllReadyH.cons (o := { dst := none, op := Op.store 46 (Operand.tmp 7) (Operand.tmp 16), type := 0, pos := "value.go:159", after := #[{ on := 9, ground := Ground.data }, { on := 7, ground := Ground.data }, { on := 5, ground := Ground.chain }, { on := 0, ground := Ground.phase }, { on := 1, ground := Ground.phase }, { on := 2, ground := Ground.phase }, { on := 3, ground := Ground.phase }, { on := 4, ground := Ground.phase }, { on := 5, ground := Ground.phase }, { on := 6, ground := Ground.phase }, { on := 7, ground := Ground.phase }, { on := 8, ground := Ground.textOnly Departure.lateStores }, { on := 9, ground := Ground.phase }], guard := none }) rfl (fun K hK => ?_) AllReadyH.nil
    rw [if_pos (by rfl)]
    refine wp_store_box 46 (.tmp 7) (.tmp 16) rfl M 0 rfl (.agg #[.int .i64 kk, .string nn, .slice oa mm cc]) rfl [.int .i64 kk, .string nn, .slice oa mm cc] rfl [.int .i64 0, .string ⟨#[]⟩, .slice none 0 0] 46 HM.out.1 (Nat.le_refl _) (show (Tryz.prog.info? 46).map (·.size) = some 3 by kernel_rfl) ?cs1b M (Nat.le_refl _) W6 (Below.refl _ _) ?_
    try case cs1b => first | exact ⟨rfl, rfl, rfl⟩ | (intro v hv; simp at hv; rcases hv with rfl | rfl | rfl <;> rfl)
    intro W5 hb5 hbx hoth
    have HB5 := Lib.hid (show Below W0.heap.size W0 W5 from HM.out.2.2.1.trans (hb5.mono HM.out.2.1))
    have HBW5 := Lib.hid (HB0.out.trans (HB5.out.mono HB0.out.size))
    have HP5 := Lib.hid (show ResP m W0.heap.size W5 R (.returned (.tuple #[.agg #[.int .i64 kk, .string nn, .slice oa mm cc], .int .i64 R.1])) from HM.out.2.2.2 W5 hb5.size hoth)
    have HM5 := Lib.hid (And.intro hbx HM.out.2.1)
    clear hb5 hbx hoth HM
    refine hK.out _ _ ?_ (fun hHeld => ?_)
    · obtain ⟨v0, v1, v2, v3, v4, v5, v6, vl⟩ := cells7 (HVW.out W5 HBW5.out)
      obtain ⟨y0, y1, y2, yf, yl⟩ := cells3p ((HB5.out.block (N + 1) (blk_lt HX.out.2)).trans HX.out.2)
      exact ⟨v0, v1, v2, y0, y1, y2⟩
    clear hK K
    (try simp only [Act.put, qA, qB, qC])
    refine wpAnyH_take (i := 11) (oi := { dst := some 8, op := Op.assign (Operand.tmp 17), type := 47, pos := "value.go:159", after := #[{ on := 8, ground := Ground.data }, { on := 10, ground := Ground.chain }, { on := 0, ground := Ground.phase }, { on := 1, ground := Ground.phase }, { on := 2, ground := Ground.phase }, { on := 3, ground := Ground.phase }, { on := 4, ground := Ground.phase }, { on := 5, ground := Ground.phase }, { on := 6, ground := Ground.phase }, { on := 7, ground := Ground.phase }, { on := 8, ground := Ground.phase }, { on := 9, ground := Ground.phase }, { on := 10, ground := Ground.phase }], guard := none }) (v := ?vq11_13) rfl (by kernel_rfl) (by kernel_rfl) (by kernel_rfl) (fun _ _ _ h => h) (Or.inl ⟨by rfl, ?hq11_13⟩) (by assumption) ?_
    case hq11_13 => intro w hSw; (try dsimp only at hSw); go_simp; try (with_reducible rfl)
    (try simp only [Act.put, qA, qB, qC])
    refine wpAnyH_done (by kernel_rfl) ?_ _
    obtain ⟨er, R2⟩ := R
    cases e1 : (er == 0) with
    | false =>
      go_wp2
      go_ret
      exact ⟨by simp [e1], HBW5.out⟩
    | true =>
      have h0 : er = 0 := by simpa using e1
      subst h0
      have hp := HP5.out
      unfold ResP at hp
      rw [if_pos rfl] at hp
      obtain ⟨⟨yk, ym, yh, yl⟩, hy1, hy2, hy3⟩ := hp
      simp only [tyV, tyC, Ending.returned.injEq, Value.tuple.injEq, Array.mk.injEq, List.cons.injEq, Value.agg.injEq, Value.int.injEq, Value.string.injEq, Value.slice.injEq, and_true, true_and] at hy1
      obtain ⟨rfl, rfl, rfl, rfl, rfl⟩ := hy1
      have hsm := HSM.out (.mk kk nn yh yl) m W5 HBW5.out (TyH.und m _ _ _ (eb_whole W5 W0.heap.size none) hy3)
      simp only [tyV, tyC] at hsm
      have HSE := Lib.hid hsm
      have hee : tyEq (erTy (.mk xk xm xh xl)) R2 = tyEq (.mk xk xm xh xl) (.mk kk nn yh yl) := by have h9 := tyEq_er (.mk xk xm xh xl) (.mk kk nn yh yl); rw [show erTy (.mk kk nn yh yl) = R2 from hy2] at h9; exact h9
      have HEE := Lib.hid hee
      clear hsm hy2 hy3 hee e1
      obtain ⟨m0, m1, m2, mf, ml⟩ := cells3p HM5.out.1
      obtain ⟨z0, z1, z2, zf, zl⟩ := cells3p ((HB5.out.block N (blk_lt HX.out.1)).trans HX.out.1)
      go_wp2_with (go_at_call 122; refine HSE.out.mono ?_; rintro e W6 ⟨rfl, hb6⟩; have HB6 := Lib.hid (HBW5.out.trans (hb6.mono HBW5.out.size)); clear hb6)
      go_ret
      exact ⟨by rw [HEE.out]; first | done | rfl | simp, HB6.out⟩

end Go.Proofs.YtghkbihgdabamaaGreatDoor
