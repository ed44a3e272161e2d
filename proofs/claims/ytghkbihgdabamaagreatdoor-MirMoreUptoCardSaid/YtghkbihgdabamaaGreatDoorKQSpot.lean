/-
  The type of what stands at a spot. Conditions: the view, its source, its body and the spot lie in the heap; types are not too large.
-/
import Derived.Test.YtghkbihgdabamaaGreatDoorKQInto
namespace Go.Proofs.YtghkbihgdabamaaGreatDoor
open Go.RowKit

def kdT : Ty5 → Int
  | .mk k _ _ _ => k
/-- along a path -/
def pathR2 (s : So5) (n : Nat) : Ty5 → Bool → List Int → Option (Ty5 × Bool)
  | t, sh, [] => some (t, sh)
  | t, sh, z :: l => match intoR s n t z with
    | some t' => pathR2 s n t' (sh || kdT t == 5) l
    | none => none
def spotR (s : So5) (n : Nat) (b : Bo) (x : Sp) : Option (Ty5 × Bool) := if plB x.loc b.locals.length then (match b.locals[x.loc.toNat]? with
    | some lo => pathR2 s n (erTy lo.ty) false x.path
    | none => none) else none
theorem erTy_er : ∀ t, erTy (erTy t) = erTy t
  | .mk k nm h l => by rw [erTy, erTy, erTys_er l]
where erTys_er : ∀ l, erTys (erTys l) = erTys l
  | [] => by rw [erTys, erTys]
  | x :: l => by rw [erTys, erTys, erTy_er x, erTys_er l]
theorem addrB_er : ∀ t, addrB (erTy t) = addrB t
  | .mk k nm h l => by rw [erTy, addrB, addrB, erTys_eq, List.length_map]
theorem intoR_er (s : So5) (n : Nat) : ∀ (t : Ty5) (z : Int), intoR s n (erTy t) z = intoR s n t z
  | .mk k nm h l, z => by
    have h1 := addrB_er (.mk k nm h l)
    rw [erTy] at h1 ⊢
    simp only [intoR, h1]
    have h2 : (erTys l).head?.map erTy = l.head?.map erTy := by
      cases l with
      | nil => rw [erTys]
      | cons x l => rw [erTys]; simp [erTy_er]
    rw [h2]
theorem kdT_er : ∀ t, kdT (erTy t) = kdT t
  | .mk k nm h l => by rw [erTy]; rfl
theorem ebp_out {w w' : World} {kf : Nat → Bool} (hs : w.heap.size ≤ w'.heap.size) (h : ∀ y, kf y = true → w'.heap[y]? = w.heap[y]?) : Und (ebp w kf) w' := by
  refine ⟨by rw [ebp_size]; exact hs, fun p v hv => ?_⟩
  obtain ⟨h1, h2⟩ := ebp_cell hv
  exact (World.cell?_of_block (h _ h1)).trans h2
/-- what spot answers -/
def SpotP (w' : World) (R : Option (Ty5 × Bool)) (e : Ending) : Prop := match R with
  | some (t, sh) => ∃ y, e = .returned (.tuple #[tyV y, .bool sh, .int .i64 0]) ∧ erTy y = t ∧ ∃ f, TyH f w' y
  | none => e = .returned (.tuple #[.agg #[.int .i64 0, .string ⟨#[]⟩, .slice none 0 0], .bool false, .int .i64 84])
/-- the same, where the type's own data may stand only in some blocks -/
def SpotK (kf : Nat → Bool) (w' : World) (R : Option (Ty5 × Bool)) (e : Ending) : Prop := match R with
  | some (t, sh) => ∃ y, e = .returned (.tuple #[tyV y, .bool sh, .int .i64 0]) ∧ erTy y = t ∧ ∃ f, TyH f (ebp w' kf) y
  | none => e = .returned (.tuple #[.agg #[.int .i64 0, .string ⟨#[]⟩, .slice none 0 0], .bool false, .int .i64 84])
theorem SpotK.all {kf : Nat → Bool} {w' : World} {R : Option (Ty5 × Bool)} {e : Ending} (h : SpotK kf w' R e) : SpotP w' R e := by
  cases R with
  | none => exact h
  | some r =>
    obtain ⟨y, h1, h2, f, h3⟩ := h
    exact ⟨y, h1, h2, f, TyH.und f _ _ _ (ebp_out (Nat.le_refl _) fun _ _ => rfl) h3⟩
set_option maxRecDepth 100000 in
set_option maxHeartbeats 40000000 in
theorem spotK_any (kf : Nat → Bool) (n : Nat) (s : So5) (b : Bo) (v : Nat) (x : Sp) (w : World) (hs : SoH n w s) (hsn : SoN s) (hv : ViewAt w v s b) (hb : BoH n w b) (hx : SpH w x) (hk : ∀ y, w.heap.size ≤ y → kf y = true) (hbk : ∀ lo ∈ b.locals, TyH n (ebp w kf) lo.ty) :
    Calls Tryz.prog 24 #[.pointer (some ⟨v, 0, none⟩), spV x] w fun e w' => Below w.heap.size w w' ∧ SpotK kf w' (spotR s n b x) e := by
  obtain ⟨loc, ph, path⟩ := x
  obtain ⟨R, hR⟩ : ∃ R, R = spotR s n b ⟨loc, ph, path⟩ := ⟨_, rfl⟩
  rw [← hR]
  have HIN := Lib.hid (show ∀ (m : Nat) (t : Ty5) (step : Int) W (kf : Nat → Bool), Below w.heap.size w W → (∀ b, W.heap.size ≤ b → kf b = true) → TyH m (ebp W kf) t → Calls Tryz.prog 49 #[.pointer (some ⟨v, 0, none⟩), tyV t, .int .i64 step] W fun e w' => Below W.heap.size W w' ∧ ∃ y ok, e = .returned (.tuple #[tyV y, .bool ok]) ∧ intoR s n t step = (if ok then some (erTy y) else none) ∧ ∃ f, TyH f (ebp w' kf) y from fun m t step W kf hW hk ht => into_any n m s b v t step W (SoH.below hs hW) hsn (hv.below hW) kf hk ht)
  obtain ⟨W0, hW⟩ : ∃ W, W = (w.alloc (.cells #[.int .i64 loc, .slice ph.oa path.length ph.cap] 33)).alloc (.cells #[.int .i64 0, .string ⟨#[]⟩, .slice none 0 0] 46) := ⟨_, rfl⟩
  obtain ⟨hb0, hx0, hx1⟩ := pal2 w (.cells #[.int .i64 loc, .slice ph.oa path.length ph.cap] 33) (.cells #[.int .i64 0, .string ⟨#[]⟩, .slice none 0 0] 46)
  rw [← hW] at hb0 hx0 hx1
  obtain ⟨hxl, hxr⟩ := hx
  obtain ⟨np, hnp⟩ : ∃ k, path.length = k := ⟨_, rfl⟩
  obtain ⟨nl, hnl⟩ : ∃ k, b.locals.length = k := ⟨_, rfl⟩
  obtain ⟨o4, c4, hh4⟩ : ∃ o c, b.hl = ⟨o, c⟩ := ⟨_, _, rfl⟩
  unfold ViewAt at hv
  rw [hnl, hh4] at hv
  simp only [spV, spC]
  rw [hnp] at hx0 hW ⊢
  have HVW := Lib.hid (show ∀ W, Below w.heap.size w W → W.heap[v]? = _ from fun W hW => (hW.block v (blk_lt hv)).trans hv)
  have hpl := fun W => isPlace_any loc (nl : Int) W
  have HPL := Lib.hid hpl
  have hll : nl ≤ c4 ∧ c4 ≤ 9223372036854775807 := by
    have h1 := hb.2.1.1
    have h2 := hb.2.1.2.1
    rw [hnl, hh4] at h1
    rw [hh4] at h2
    unfold maxLen at h2
    exact ⟨h1, by dsimp only at h2; omega⟩
  have hlp : np ≤ 9223372036854775807 := by
    have h1 : path.length ≤ ph.cap := hxr.1
    have h2 : ph.cap ≤ maxLen := hxr.2.1
    unfold maxLen at h2
    omega
  have HLO := Lib.hid hb.2.1
  have HBK := Lib.hid hbk
  have HK := Lib.hid hk
  clear hbk hk
  have HPA := Lib.hid hxr
  obtain ⟨N, hN⟩ : ∃ N, N = w.heap.size := ⟨_, rfl⟩
  have hvN : v < N := by rw [hN]; exact blk_lt hv
  rw [← hN] at hx0 hx1
  have HX := Lib.hid (And.intro hx0 hx1)
  have HN := Lib.hid hN
  have HB0 := Lib.hid hb0
  have HVN := Lib.hid hvN
  have HR := Lib.hid hR
  have HNL := Lib.hid (And.intro hnp (And.intro hnl hh4))
  clear hs hsn hv hb hxl hxr hx0 hx1 hb0 hnp hnl hh4 hvN hpl hR
  go_enter Tryz.func24, Tryz.ntmps24
  go_upto_region 1 with fail
  rw [← hW]
  clear hW
  try simp only [← hN]
  clear hN
  obtain ⟨y0, y1, yf, yl⟩ := cells2p HX.out.1
  obtain ⟨v0, v1, v2, v3, v4, v5, v6, vl⟩ := cells7 (HVW.out W0 HB0.out)
  go_wp2_with fail
  refine wp_region_held_drew (S := (fun w' => w'.cell? ⟨N, 0, none⟩ = some (.int .i64 loc) ∧ w'.cell? ⟨v, 5, none⟩ = some (.slice o4 nl c4))) (by kernel_rfl) ?_ (fun hHeld => ?_)
  · exact ⟨y0, v5⟩
  refine wpAnyH_take (i := 0) (oi := { dst := some 13, op := Op.fieldAddr 33 (Operand.tmp 3) 0, type := 0, pos := "view.go:16", after := #[], guard := none }) (v := ?vq0_1) rfl (by kernel_rfl) (by kernel_rfl) (by kernel_rfl) (fun _ _ _ h => h) (Or.inl ⟨by rfl, ?hq0_1⟩) (by assumption) ?_
  case hq0_1 => intro w hSw; (try dsimp only at hSw); go_simp; try (with_reducible rfl)
  (try simp only [Act.put, qA, qB, qC])
  refine wpAnyH_take (i := 1) (oi := { dst := some 14, op := Op.load 3 (Operand.tmp 13), type := 3, pos := "view.go:16", after := #[{ on := 0, ground := Ground.data }], guard := none }) (v := ?vq1_2) rfl (by kernel_rfl) (by kernel_rfl) (by kernel_rfl) (fun _ _ _ h => h) (Or.inl ⟨by rfl, ?hq1_2⟩) (by assumption) ?_
  case hq1_2 => intro w hSw; (try dsimp only at hSw); go_simp; try (with_reducible rfl)
  (try simp only [Act.put, qA, qB, qC])
  refine wpAnyH_take (i := 2) (oi := { dst := some 15, op := Op.move (Operand.tmp 0), type := 85, pos := "view.go:16", after := #[], guard := none }) (v := ?vq2_3) rfl (by kernel_rfl) (by kernel_rfl) (by kernel_rfl) (fun _ _ _ h => h) (Or.inl ⟨by rfl, ?hq2_3⟩) (by assumption) ?_
  case hq2_3 => intro w hSw; (try dsimp only at hSw); go_simp; try (with_reducible rfl)
  (try simp only [Act.put, qA, qB, qC])
  refine wpAnyH_take (i := 3) (oi := { dst := some 16, op := Op.nilCheck (Operand.tmp 15), type := 0, pos := "view.go:16", after := #[{ on := 2, ground := Ground.data }], guard := none }) (v := ?vq3_4) rfl (by kernel_rfl) (by kernel_rfl) (by kernel_rfl) (fun _ _ _ h => h) (Or.inl ⟨by rfl, ?hq3_4⟩) (by assumption) ?_
  case hq3_4 => intro w hSw; (try dsimp only at hSw); go_simp; try (with_reducible rfl)
  (try simp only [Act.put, qA, qB, qC])
  refine wpAnyH_take (i := 4) (oi := { dst := some 17, op := Op.fieldAddr 87 (Operand.tmp 16) 1, type := 0, pos := "view.go:16", after := #[{ on := 3, ground := Ground.data }], guard := none }) (v := ?vq4_5) rfl (by kernel_rfl) (by kernel_rfl) (by kernel_rfl) (fun _ _ _ h => h) (Or.inl ⟨by rfl, ?hq4_5⟩) (by assumption) ?_
  case hq4_5 => intro w hSw; (try dsimp only at hSw); go_simp; try (with_reducible rfl)
  (try simp only [Act.put, qA, qB, qC])
  refine wpAnyH_take (i := 5) (oi := { dst := some 18, op := Op.fieldAddr 30 (Operand.tmp 17) 2, type := 0, pos := "view.go:16", after := #[{ on := 4, ground := Ground.data }], guard := none }) (v := ?vq5_6) rfl (by kernel_rfl) (by kernel_rfl) (by kernel_rfl) (fun _ _ _ h => h) (Or.inl ⟨by rfl, ?hq5_6⟩) (by assumption) ?_
  case hq5_6 => intro w hSw; (try dsimp only at hSw); go_simp; try (with_reducible rfl)
  (try simp only [Act.put, qA, qB, qC])
  refine wpAnyH_take (i := 6) (oi := { dst := some 19, op := Op.load 27 (Operand.tmp 18), type := 27, pos := "view.go:16", after := #[{ on := 5, ground := Ground.data }], guard := none }) (v := ?vq6_7) rfl (by kernel_rfl) (by kernel_rfl) (by kernel_rfl) (fun _ _ _ h => h) (Or.inl ⟨by rfl, ?hq6_7⟩) (by assumption) ?_
  case hq6_7 => intro w hSw; (try dsimp only at hSw); go_simp; try (with_reducible rfl)
  (try simp only [Act.put, qA, qB, qC])
  refine wpAnyH_take (i := 7) (oi := { dst := some 20, op := Op.call { callee := Callee.builtin Builtin.len, args := #[Operand.tmp 19], argTypes := #[27] }, type := 3, pos := "view.go:16", after := #[{ on := 6, ground := Ground.data }], guard := none }) (v := ?vq7_8) rfl (by kernel_rfl) (by kernel_rfl) (by kernel_rfl) (fun _ _ _ h => h) (Or.inl ⟨by rfl, ?hq7_8⟩) (by assumption) ?_
  case hq7_8 => intro w hSw; (try dsimp only at hSw); go_simp; try (with_reducible rfl)
  (try simp only [Act.put, qA, qB, qC])
  refine wpAnyH_ready (rs := [8]) (by kernel_rfl) (by simp) ?_
  refine AllReadyH.cons (o := { dst := some 21, op := Op.call { callee := Callee.value (Operand.func 48), args := #[Operand.tmp 14, Operand.tmp 20], argTypes := #[3, 3] }, type := 4, pos := "view.go:16", after := #[{ on := 1, ground := Ground.data }, { on := 7, ground := Ground.data }], guard := none }) rfl (fun K hK => ?_) AllReadyH.nil
  go_simp
  refine (HPL.out W0.drew).mono ?_
  rintro e W1 ⟨rfl, h9⟩
  subst h9
  refine hK.out _ _ ?_ (fun hHeld => ?_)
  · exact ⟨y0, v5⟩
  clear hK K
  (try simp only [Act.put, qA, qB, qC])
  refine wpAnyH_take (i := 9) (oi := { dst := some 22, op := Op.unOp UnOp.not 4 (Operand.tmp 21), type := 4, pos := "view.go:16", after := #[{ on := 8, ground := Ground.data }], guard := none }) (v := ?vq9_9) rfl (by kernel_rfl) (by kernel_rfl) (by kernel_rfl) (fun _ _ _ h => h) (Or.inl ⟨by rfl, ?hq9_9⟩) (by assumption) ?_
  case hq9_9 => intro w hSw; (try dsimp only at hSw); go_simp; try (with_reducible rfl)
  (try simp only [Act.put, qA, qB, qC])
  refine wpAnyH_done (by kernel_rfl) ?_ _
  cases hp : plB loc nl with
  | false =>
    have HP := Lib.hid hp
    clear hp
    go_wp2_with (refine wpList_store_box rfl 46 (.tmp 4) (.tmp 23) rfl (N + 1) 0 rfl (.agg #[.int .i64 0, .string ⟨#[]⟩, .slice none 0 0]) rfl [.int .i64 0, .string ⟨#[]⟩, .slice none 0 0] rfl [.int .i64 0, .string ⟨#[]⟩, .slice none 0 0] 46 (show W0.drew.heap[N + 1]? = _ from HX.out.2) (Nat.le_refl _) (show (Tryz.prog.info? 46).map (·.size) = some 3 by kernel_rfl) ?ca1 (N + 1) (Nat.le_refl _) W0.drew (Below.refl _ _) ?_)
    try case ca1 => first | exact ⟨rfl, rfl, rfl⟩ | (intro v hv; simp at hv; rcases hv with rfl | rfl | rfl <;> rfl)
    intro WF hb hbx hoth
    have HF := Lib.hid (show Below w.heap.size w WF from (HB0.out.trans (show Below w.heap.size W0 W0.drew from ⟨rfl, rfl, rfl, Nat.le_refl _, fun _ _ => rfl⟩)).trans (hb.mono (by have := HN.out; omega)))
    obtain ⟨f0, f1, f2, ff, fl⟩ := cells3p hbx
    clear hb hbx hoth y0 y1 yf yl v0 v1 v2 v3 v4 v5 v6 vl
    go_wp2
    refine bodyPost_ret (v := .tuple #[.agg #[.int .i64 0, .string ⟨#[]⟩, .slice none 0 0], .bool false, .int .i64 84]) (by simp [results, Tryz.results24, go_sem, f0, f1, f2]) rfl ⟨HF.out, ?_⟩
    rw [HR.out, spotR, HNL.out.2.1, if_neg (by rw [HP.out]; decide)]
    rfl
  | true =>
    have HP := Lib.hid hp
    clear hp
    obtain ⟨j, lo, hj, hjl, hlo⟩ := plB_at (l := b.locals) (z := loc) (by rw [HNL.out.2.1]; exact HP.out)
    have hlt : TyH n (ebp w kf) lo.ty := HBK.out lo (List.mem_of_getElem? hlo)
    obtain ⟨bl, ol, hol, hbl, hcl⟩ := HLO.out.2.2.1 (by omega)
    rw [HNL.out.2.2] at hol
    dsimp only at hol
    subst hol
    have hr0 : R = pathR2 s n (erTy lo.ty) false path := by
      rw [HR.out, spotR, HNL.out.2.1, if_pos HP.out, hj, Int.toNat_natCast, hlo]
    obtain ⟨ln, ⟨k1, nm1, h1, l1⟩⟩ := lo
    have g1 : W0.cell? ⟨bl, ol + j * 4 + 1, none⟩ = some (.int .i64 k1) := (HB0.out.cell (p := ⟨bl, ol + j * 4 + 1, none⟩) hbl).trans (hcl j _ hlo 1 _ rfl)
    have g2 : W0.cell? ⟨bl, ol + j * 4 + 2, none⟩ = some (.string nm1) := (HB0.out.cell (p := ⟨bl, ol + j * 4 + 2, none⟩) hbl).trans (hcl j _ hlo 2 _ rfl)
    have g3 : W0.cell? ⟨bl, ol + j * 4 + 3, none⟩ = some (.slice h1.oa l1.length h1.cap) := (HB0.out.cell (p := ⟨bl, ol + j * 4 + 3, none⟩) hbl).trans (hcl j _ hlo 3 _ rfl)
    have HT0 := Lib.hid (And.intro hlt hr0)
    have tj0 : (0 : Int) ≤ j := by omega
    have tj1 : (j : Int) < nl := by have := HNL.out.2.1; omega
    subst hj
    clear hlo hjl hlt hcl hr0 hbl
    go_wp2_with fail
    refine wp_region_held_drew (S := (fun w' => w'.cell? ⟨N, 0, none⟩ = some (.int .i64 (j : Int)) ∧ w'.cell? ⟨v, 5, none⟩ = some (.slice (some ⟨bl, ol, none⟩) nl c4) ∧ w'.cell? ⟨bl, ol + j * 4 + 1, none⟩ = some (.int .i64 k1) ∧ w'.cell? ⟨bl, ol + j * 4 + 2, none⟩ = some (.string nm1) ∧ w'.cell? ⟨bl, ol + j * 4 + 3, none⟩ = some (.slice h1.oa l1.length h1.cap))) (by kernel_rfl) ?_ (fun hHeld => ?_)
    · exact ⟨y0, v5, g1, g2, g3⟩
    refine wpAnyH_take (i := 0) (oi := { dst := some 24, op := Op.move (Operand.tmp 0), type := 85, pos := "view.go:19", after := #[], guard := none }) (v := ?vq0_10) rfl (by kernel_rfl) (by kernel_rfl) (by kernel_rfl) (fun _ _ _ h => h) (Or.inl ⟨by rfl, ?hq0_10⟩) (by assumption) ?_
    case hq0_10 => intro w hSw; (try dsimp only at hSw); go_simp; try (with_reducible rfl)
    (try simp only [Act.put, qA, qB, qC])
    refine wpAnyH_take (i := 1) (oi := { dst := some 25, op := Op.nilCheck (Operand.tmp 24), type := 0, pos := "view.go:19", after := #[{ on := 0, ground := Ground.data }], guard := none }) (v := ?vq1_11) rfl (by kernel_rfl) (by kernel_rfl) (by kernel_rfl) (fun _ _ _ h => h) (Or.inl ⟨by rfl, ?hq1_11⟩) (by assumption) ?_
    case hq1_11 => intro w hSw; (try dsimp only at hSw); go_simp; try (with_reducible rfl)
    (try simp only [Act.put, qA, qB, qC])
    refine wpAnyH_take (i := 2) (oi := { dst := some 26, op := Op.fieldAddr 87 (Operand.tmp 25) 1, type := 0, pos := "view.go:19", after := #[{ on := 1, ground := Ground.data }], guard := none }) (v := ?vq2_12) rfl (by kernel_rfl) (by kernel_rfl) (by kernel_rfl) (fun _ _ _ h => h) (Or.inl ⟨by rfl, ?hq2_12⟩) (by assumption) ?_
    case hq2_12 => intro w hSw; (try dsimp only at hSw); go_simp; try (with_reducible rfl)
    (try simp only [Act.put, qA, qB, qC])
    refine wpAnyH_take (i := 3) (oi := { dst := some 27, op := Op.fieldAddr 30 (Operand.tmp 26) 2, type := 0, pos := "view.go:19", after := #[{ on := 2, ground := Ground.data }], guard := none }) (v := ?vq3_13) rfl (by kernel_rfl) (by kernel_rfl) (by kernel_rfl) (fun _ _ _ h => h) (Or.inl ⟨by rfl, ?hq3_13⟩) (by assumption) ?_
    case hq3_13 => intro w hSw; (try dsimp only at hSw); go_simp; try (with_reducible rfl)
    (try simp only [Act.put, qA, qB, qC])
    refine wpAnyH_take (i := 4) (oi := { dst := some 28, op := Op.load 27 (Operand.tmp 27), type := 27, pos := "view.go:19", after := #[{ on := 3, ground := Ground.data }], guard := none }) (v := ?vq4_14) rfl (by kernel_rfl) (by kernel_rfl) (by kernel_rfl) (fun _ _ _ h => h) (Or.inl ⟨by rfl, ?hq4_14⟩) (by assumption) ?_
    case hq4_14 => intro w hSw; (try dsimp only at hSw); go_simp; try (with_reducible rfl)
    (try simp only [Act.put, qA, qB, qC])
    refine wpAnyH_take (i := 5) (oi := { dst := some 29, op := Op.fieldAddr 33 (Operand.tmp 3) 0, type := 0, pos := "view.go:19", after := #[], guard := none }) (v := ?vq5_15) rfl (by kernel_rfl) (by kernel_rfl) (by kernel_rfl) (fun _ _ _ h => h) (Or.inl ⟨by rfl, ?hq5_15⟩) (by assumption) ?_
    case hq5_15 => intro w hSw; (try dsimp only at hSw); go_simp; try (with_reducible rfl)
    (try simp only [Act.put, qA, qB, qC])
    refine wpAnyH_take (i := 6) (oi := { dst := some 30, op := Op.load 3 (Operand.tmp 29), type := 3, pos := "view.go:19", after := #[{ on := 5, ground := Ground.data }], guard := none }) (v := ?vq6_16) rfl (by kernel_rfl) (by kernel_rfl) (by kernel_rfl) (fun _ _ _ h => h) (Or.inl ⟨by rfl, ?hq6_16⟩) (by assumption) ?_
    case hq6_16 => intro w hSw; (try dsimp only at hSw); go_simp; try (with_reducible rfl)
    (try simp only [Act.put, qA, qB, qC])
    refine wpAnyH_take (i := 7) (oi := { dst := some 31, op := Op.indexAddr 27 (Operand.tmp 28) (Operand.tmp 30), type := 0, pos := "view.go:19", after := #[{ on := 4, ground := Ground.data }, { on := 6, ground := Ground.data }], guard := none }) (v := ?vq7_17) rfl (by kernel_rfl) (by kernel_rfl) (by kernel_rfl) (fun _ _ _ h => h) (Or.inl ⟨by rfl, ?hq7_17⟩) (by assumption) ?_
    case hq7_17 => intro w hSw; (try dsimp only at hSw); go_simp; try (with_reducible rfl)
    (try simp only [Act.put, qA, qB, qC])
    refine wpAnyH_take (i := 8) (oi := { dst := some 32, op := Op.fieldAddr 66 (Operand.tmp 31) 1, type := 0, pos := "view.go:19", after := #[{ on := 7, ground := Ground.data }], guard := none }) (v := ?vq8_18) rfl (by kernel_rfl) (by kernel_rfl) (by kernel_rfl) (fun _ _ _ h => h) (Or.inl ⟨by rfl, ?hq8_18⟩) (by assumption) ?_
    case hq8_18 => intro w hSw; (try dsimp only at hSw); go_simp; try (with_reducible rfl)
    (try simp only [Act.put, qA, qB, qC])
    refine wpAnyH_take (i := 9) (oi := { dst := some 33, op := Op.load 46 (Operand.tmp 32), type := 46, pos := "view.go:19", after := #[{ on := 8, ground := Ground.data }], guard := none }) (v := ?vq9_19) rfl (by kernel_rfl) (by kernel_rfl) (by kernel_rfl) (fun _ _ _ h => h) (Or.inl ⟨by rfl, ?hq9_19⟩) (by assumption) ?_
    case hq9_19 => intro w hSw; (try dsimp only at hSw); go_simp; try (with_reducible rfl)
    (try simp only [Act.put, qA, qB, qC])
    refine wpAnyH_ready (rs := [10]) (by kernel_rfl) (by simp) ?_
    refine AllReadyH.cons (o := { dst := some 7, op := Op.alloc 46, type := 0, pos := "view.go:19", after := #[], guard := none }) rfl (fun K hK => ?_) AllReadyH.nil
    go_simp
    obtain ⟨M, hM⟩ : ∃ M, M = W0.heap.size := ⟨_, rfl⟩
    obtain ⟨W1, hW1⟩ : ∃ W, W = (W0.alloc (.cells #[.int .i64 0, .string ⟨#[]⟩, .slice none 0 0] 46)).drew.drew := ⟨_, rfl⟩
    rw [← hW1]
    have HM1 := Lib.hid (show W1.heap[M]? = some (.cells #[.int .i64 0, .string ⟨#[]⟩, .slice none 0 0] 46) ∧ W0.heap.size ≤ M ∧ Below W0.heap.size W0 W1 from by
      subst hW1
      subst hM
      exact ⟨heap_alloc_new W0 _, Nat.le_refl _, (alloc_below W0 (.cells #[.int .i64 0, .string ⟨#[]⟩, .slice none 0 0] 46)).trans ⟨rfl, rfl, rfl, Nat.le_refl _, fun _ _ => rfl⟩⟩)
    try simp only [← hM]
    clear hM hW1
    have HBW1 := Lib.hid (HB0.out.trans (HM1.out.2.2.mono HB0.out.size))
    have HG := Lib.hid (And.intro g1 (And.intro g2 g3))
    clear g1 g2 g3
    have gg : ∀ W, Below W0.heap.size W0 W → W.cell? ⟨N, 0, none⟩ = some (.int .i64 (j : Int)) ∧ W.cell? ⟨v, 5, none⟩ = some (.slice (some ⟨bl, ol, none⟩) nl c4) ∧ W.cell? ⟨bl, ol + j * 4 + 1, none⟩ = some (.int .i64 k1) ∧ W.cell? ⟨bl, ol + j * 4 + 2, none⟩ = some (.string nm1) ∧ W.cell? ⟨bl, ol + j * 4 + 3, none⟩ = some (.slice h1.oa l1.length h1.cap) := fun W hW =>
      ⟨(World.cell?_of_block (hW.block N (World.block_lt_of_cell? W0 _ y0))).trans y0, (World.cell?_of_block (hW.block v (World.block_lt_of_cell? W0 _ v5))).trans v5, (World.cell?_of_block (hW.block bl (World.block_lt_of_cell? W0 _ HG.out.1))).trans HG.out.1, (World.cell?_of_block (hW.block bl (World.block_lt_of_cell? W0 _ HG.out.1))).trans HG.out.2.1, (World.cell?_of_block (hW.block bl (World.block_lt_of_cell? W0 _ HG.out.1))).trans HG.out.2.2⟩
    have HGG := Lib.hid gg
    clear gg HG
    refine hK.out _ _ ?_ (fun hHeld => ?_)
    · exact HGG.out W1 HM1.out.2.2
    clear hK K y0 y1 yf yl v0 v1 v2 v3 v4 v5 v6 vl
    (try simp only [Act.put, qA, qB, qC])
    refine wpAnyH_ready (rs := [11]) (by kernel_rfl) (by simp) ?_
    refine AllReadyH.cons (o := { dst := none, op := Op.store 46 (Operand.tmp 7) (Operand.tmp 33), type := 0, pos := "view.go:19", after := #[{ on := 10, ground := Ground.data }, { on := 9, ground := Ground.data }, { on := 0, ground := Ground.phase }, { on := 1, ground := Ground.phase }, { on := 2, ground := Ground.phase }, { on := 3, ground := Ground.phase }, { on := 4, ground := Ground.phase }, { on := 5, ground := Ground.phase }, { on := 6, ground := Ground.phase }, { on := 7, ground := Ground.phase }, { on := 8, ground := Ground.phase }, { on := 9, ground := Ground.phase }, { on := 10, ground := Ground.phase }], guard := none }) rfl (fun K hK => ?_) AllReadyH.nil
    rw [if_pos (by rfl)]
    refine wp_store_box 46 (.tmp 7) (.tmp 33) rfl M 0 rfl (.agg #[.int .i64 k1, .string nm1, .slice h1.oa l1.length h1.cap]) rfl [.int .i64 k1, .string nm1, .slice h1.oa l1.length h1.cap] rfl [.int .i64 0, .string ⟨#[]⟩, .slice none 0 0] 46 HM1.out.1 (Nat.le_refl _) (show (Tryz.prog.info? 46).map (·.size) = some 3 by kernel_rfl) ?cb1 M (Nat.le_refl _) W1 (Below.refl _ _) ?_
    try case cb1 => first | exact ⟨rfl, rfl, rfl⟩ | (intro v hv; simp at hv; rcases hv with rfl | rfl | rfl <;> rfl)
    intro W2 hb2 hbx hoth
    have HB2 := Lib.hid (show Below W0.heap.size W0 W2 from HM1.out.2.2.trans (hb2.mono HM1.out.2.1))
    have HM2 := Lib.hid (And.intro (show W2.heap[M]? = some (.cells (tyC (.mk k1 nm1 h1 l1)).toArray 46) from hbx) HM1.out.2.1)
    clear hb2 hbx hoth
    refine hK.out _ _ ?_ (fun hHeld => ?_)
    · exact HGG.out W2 HB2.out
    clear hK K HGG HM1 HBW1
    (try simp only [Act.put, qA, qB, qC])
    refine wpAnyH_take (i := 12) (oi := { dst := some 8, op := Op.assign (Operand.const (Value.bool false)), type := 4, pos := "view.go:19", after := #[{ on := 11, ground := Ground.chain }, { on := 0, ground := Ground.phase }, { on := 1, ground := Ground.phase }, { on := 2, ground := Ground.phase }, { on := 3, ground := Ground.phase }, { on := 4, ground := Ground.phase }, { on := 5, ground := Ground.phase }, { on := 6, ground := Ground.phase }, { on := 7, ground := Ground.phase }, { on := 8, ground := Ground.phase }, { on := 9, ground := Ground.phase }, { on := 10, ground := Ground.phase }, { on := 11, ground := Ground.phase }], guard := none }) (v := ?vq12_20) rfl (by kernel_rfl) (by kernel_rfl) (by kernel_rfl) (fun _ _ _ h => h) (Or.inl ⟨by rfl, ?hq12_20⟩) (by assumption) ?_
    case hq12_20 => intro w hSw; (try dsimp only at hSw); go_simp; try (with_reducible rfl)
    (try simp only [Act.put, qA, qB, qC])
    refine wpAnyH_done (by kernel_rfl) ?_ _
    have HBW2 := Lib.hid (HB0.out.trans (HB2.out.mono HB0.out.size))
    have hxa := (HB2.out.block N (blk_lt HX.out.1)).trans HX.out.1
    have hxb := (HB2.out.block (N + 1) (blk_lt HX.out.2)).trans HX.out.2
    have HXX := Lib.hid (And.intro hxa hxb)
    have hMg : N + 1 < M := by have h1 := HM2.out.2; have h2 := blk_lt HX.out.2; omega
    have HMG := Lib.hid (And.intro hMg (Nat.lt_of_lt_of_le (show v < N from HVN.out) (Nat.le_of_lt (show N < M by omega))))
    obtain ⟨y0, y1, yf, yl⟩ := cells2p hxa
    clear hxa hxb hMg
    go_wp2_with fail
    clear y0 y1 yf yl
    go_loopw [8, 37] (fun sh u wr => ∃ (i : Nat) (tt : Ty5) (sb : Bool), i ≤ np ∧ sh = .bool sb ∧ u = .int .i64 i ∧ wr.heap[M]? = some (.cells (tyC tt).toArray 46) ∧ wr.heap[N + 1]? = some (.cells #[.int .i64 0, .string ⟨#[]⟩, .slice none 0 0] 46) ∧ Below w.heap.size w wr ∧ M < wr.heap.size ∧ (∃ f, TyH f (ebp wr (fun y => kf y && (y != N + 1 && y != M))) tt) ∧ pathR2 s n (erTy tt) sb (path.drop i) = R) (fun _ u _ => np - (intOf u).toNat)
    case atStart => exact ⟨0, .mk k1 nm1 h1 l1, false, Nat.zero_le _, rfl, rfl, HM2.out.1, HXX.out.2, HBW2.out, blk_lt HM2.out.1, ⟨n, TyH.und n _ _ _ (ebp_und HBW2.out.size fun y hl hy => ⟨by have h1 := HN.out; have h2 := HMG.out.1; simp [hy]; omega, HBW2.out.block y hl⟩) HT0.out.1⟩, HT0.out.2.symm⟩
    case round =>
      obtain ⟨i, tt, sb, hi, rfl, rfl, r0, r1, rb, rm, ⟨f, rt⟩, rr⟩ := hrel
      have HRL := Lib.hid (And.intro r0 (And.intro r1 (And.intro rb (And.intro rm (And.intro rt rr)))))
      clear r0 r1 rb rm rt rr
      by_cases hin : i < np
      · have t1 : decide ((i : Int) < np) = true := by simp; omega
        have ti0 : (0 : Int) ≤ i := by omega
        have ti1 : (i : Int) < np := by omega
        obtain ⟨z, hz⟩ : ∃ z, path[i]? = some z := ⟨_, List.getElem?_eq_getElem (by rw [HNL.out.1]; exact hin)⟩
        have hdz : path.drop i = z :: path.drop (i + 1) := by
          have hl : i < path.length := by rw [HNL.out.1]; exact hin
          rw [List.drop_eq_getElem_cons hl]; rw [List.getElem?_eq_getElem hl] at hz; rw [Option.some.inj hz]
        obtain ⟨bp, op, hop, hbp, hcp⟩ := HPA.out.2.2.1 (by rw [HNL.out.1]; omega)
        have gp : wr.cell? ⟨bp, op + i, none⟩ = some (.int .i64 z) := (HRL.out.2.2.1.cell (p := ⟨bp, op + i, none⟩) hbp).trans (by simpa using hcp i z hz 0 _ rfl)
        have hstep := HRL.out.2.2.2.2.2
        rw [hdz, pathR2, intoR_er, kdT_er] at hstep
        have hin2 := HIN.out f tt z wr (fun y => kf y && (y != N + 1 && y != M)) HRL.out.2.2.1 (fun y hy => by have h1 := HMG.out.1; have h2 := HRL.out.2.2.2.1; have h3 := HRL.out.2.2.1.size; simp [HK.out y (by omega)]; omega) HRL.out.2.2.2.2.1
        obtain ⟨k3, nm3, h3, l3⟩ := tt
        obtain ⟨m0, m1, m2, mf, ml⟩ := cells3p (show wr.heap[M]? = some (.cells #[.int .i64 k3, .string nm3, .slice h3.oa l3.length h3.cap] 46) from HRL.out.1)
        have HST := Lib.hid hstep
        simp only [tyV, tyC] at hin2
        have HIC := Lib.hid hin2
        simp only [hop]
        clear hz hdz hcp hbp hstep hin2
        cases sb with
        | true =>
          go_upto_region 9 with
            (first
              | (go_at_call 49; refine HIC.out.mono ?_; rintro e W4 ⟨hb4, ⟨k4, nm4, h4, l4⟩, ok, rfl, hi4, f4, hy4⟩; simp only [tyC]; have HI4 := Lib.hid (And.intro hb4 (And.intro hi4 hy4)); clear hb4 hi4 hy4)
              | (refine wpList_store_box rfl 46 (.tmp 11) (.tmp 52) rfl W4.heap.size 0 rfl (.agg #[.int .i64 k4, .string nm4, .slice h4.oa l4.length h4.cap]) rfl [.int .i64 k4, .string nm4, .slice h4.oa l4.length h4.cap] rfl [.int .i64 0, .string ⟨#[]⟩, .slice none 0 0] 46 (heap_alloc_new W4 (.cells #[.int .i64 0, .string ⟨#[]⟩, .slice none 0 0] 46)) (Nat.le_refl _) (show (Tryz.prog.info? 46).map (·.size) = some 3 by kernel_rfl) ?cda W4.heap.size (Nat.le_refl _) (W4.alloc (.cells #[.int .i64 0, .string ⟨#[]⟩, .slice none 0 0] 46)) (Below.refl _ _) ?_; rotate_left; intro W5 hb5 hbx5 hoth5))
          try case cda => first | exact ⟨rfl, rfl, rfl⟩ | (intro v hv; simp at hv; rcases hv with rfl | rfl | rfl <;> rfl)
          obtain ⟨Q, hQ⟩ : ∃ Q, Q = W4.heap.size := ⟨_, rfl⟩
          have hb45 : Below W4.heap.size W4 W5 := (alloc_below W4 (.cells #[.int .i64 0, .string ⟨#[]⟩, .slice none 0 0] 46)).trans hb5
          have HB5 := Lib.hid (show Below wr.heap.size wr W5 from HI4.out.1.trans (hb45.mono HI4.out.1.size))
          have HQ5 := Lib.hid (show W5.heap[Q]? = some (.cells #[.int .i64 k4, .string nm4, .slice h4.oa l4.length h4.cap] 46) ∧ wr.heap.size ≤ Q from ⟨by rw [hQ]; exact hbx5, by rw [hQ]; exact HI4.out.1.size⟩)
          have HT5 := Lib.hid (show TyH f4 (ebp W5 (fun y => kf y && (y != N + 1 && y != M))) (.mk k4 nm4 h4 l4) from TyH.und f4 _ _ _ (ebp_below hb45 _) HI4.out.2.2)
          simp only [← hQ]
          clear hb5 hbx5 hoth5 hb45 hQ m0 m1 m2 mf ml gp
          cases ok with
          | false =>
            have hno : R = none := by
              have h1 := HST.out
              rw [HI4.out.2.1] at h1
              exact h1.symm
            have HNO := Lib.hid hno
            clear hno
            go_wp2_with (refine wpList_store_box rfl 46 (.tmp 4) (.tmp 56) rfl (N + 1) 0 rfl (.agg #[.int .i64 0, .string ⟨#[]⟩, .slice none 0 0]) rfl [.int .i64 0, .string ⟨#[]⟩, .slice none 0 0] rfl [.int .i64 0, .string ⟨#[]⟩, .slice none 0 0] 46 ((HB5.out.block (N + 1) (blk_lt HRL.out.2.1)).trans HRL.out.2.1) (Nat.le_refl _) (show (Tryz.prog.info? 46).map (·.size) = some 3 by kernel_rfl) ?cea (N + 1) (Nat.le_refl _) W5 (Below.refl _ _) ?_)
            try case cea => first | exact ⟨rfl, rfl, rfl⟩ | (intro v hv; simp at hv; rcases hv with rfl | rfl | rfl <;> rfl)
            intro WF hb hbx hoth
            have HF := Lib.hid ((HRL.out.2.2.1.trans (HB5.out.mono HRL.out.2.2.1.size)).trans (hb.mono (by have := HN.out; omega)))
            obtain ⟨f0, f1, f2, ff, fl⟩ := cells3p hbx
            clear hb hbx hoth
            go_wp2
            refine bodyPost_ret (v := .tuple #[.agg #[.int .i64 0, .string ⟨#[]⟩, .slice none 0 0], .bool false, .int .i64 84]) (by simp [results, Tryz.results24, go_sem, f0, f1, f2]) rfl ⟨HF.out, ?_⟩
            rw [HNO.out]
            rfl
          | true =>
            obtain ⟨u0, u1, u2, uf, ul⟩ := cells3p HQ5.out.1
            go_wp2_with (refine wpList_store_box rfl 46 (.tmp 7) (.tmp 57) rfl M 0 rfl (.agg #[.int .i64 k4, .string nm4, .slice h4.oa l4.length h4.cap]) rfl [.int .i64 k4, .string nm4, .slice h4.oa l4.length h4.cap] rfl [.int .i64 k3, .string nm3, .slice h3.oa l3.length h3.cap] 46 ((HB5.out.block M (blk_lt HRL.out.1)).trans (show wr.heap[M]? = some (.cells #[.int .i64 k3, .string nm3, .slice h3.oa l3.length h3.cap] 46) from HRL.out.1)) (Nat.le_refl _) (show (Tryz.prog.info? 46).map (·.size) = some 3 by kernel_rfl) ?cfa M (Nat.le_refl _) W5 (Below.refl _ _) ?_)
            try case cfa => first | exact ⟨rfl, rfl, rfl⟩ | (intro v hv; simp at hv; rcases hv with rfl | rfl | rfl <;> rfl)
            intro W6 hb6 hbx6 hoth6
            have HF := Lib.hid (And.intro hb6 (And.intro hbx6 hoth6))
            clear hb6 hbx6 hoth6 u0 u1 u2 uf ul
            go_wp2
            go_roundw
            case rel =>
              have hr := HRL.out
              have hf := HF.out
              have hMN : N + 1 ≠ M := by have := HMG.out.1; omega
              have hst := HST.out
              rw [HI4.out.2.1] at hst
              have hlt := blk_lt hr.1
              refine ⟨i + 1, .mk k4 nm4 h4 l4, true, by omega, by first | rfl | simp, by go_num, hf.2.1, (hf.2.2 (N + 1) hMN).trans ((HB5.out.block (N + 1) (blk_lt hr.2.1)).trans hr.2.1), (hr.2.2.1.trans (HB5.out.mono hr.2.2.1.size)).trans (hf.1.mono (by have := HMG.out.1; have := HN.out; omega)), blk_lt hf.2.1, ?_, ?_⟩
              · exact ⟨f4, TyH.und f4 _ _ _ (ebp_und hf.1.size fun y hy hk => ⟨hk, hf.2.2 y (by simp at hk; exact hk.2.2)⟩) HT5.out⟩
              · first | exact hst | (simpa [kdT] using hst) | (simpa [kdT, e5] using hst)
            case measure => simp [intOf]; omega
        | false =>
          cases e5 : (k3 == 5) with
          | true =>
            go_upto_region 9 with
              (first
                | (go_at_call 49; refine HIC.out.mono ?_; rintro e W4 ⟨hb4, ⟨k4, nm4, h4, l4⟩, ok, rfl, hi4, f4, hy4⟩; simp only [tyC]; have HI4 := Lib.hid (And.intro hb4 (And.intro hi4 hy4)); clear hb4 hi4 hy4)
                | (refine wpList_store_box rfl 46 (.tmp 11) (.tmp 52) rfl W4.heap.size 0 rfl (.agg #[.int .i64 k4, .string nm4, .slice h4.oa l4.length h4.cap]) rfl [.int .i64 k4, .string nm4, .slice h4.oa l4.length h4.cap] rfl [.int .i64 0, .string ⟨#[]⟩, .slice none 0 0] 46 (heap_alloc_new W4 (.cells #[.int .i64 0, .string ⟨#[]⟩, .slice none 0 0] 46)) (Nat.le_refl _) (show (Tryz.prog.info? 46).map (·.size) = some 3 by kernel_rfl) ?cdb W4.heap.size (Nat.le_refl _) (W4.alloc (.cells #[.int .i64 0, .string ⟨#[]⟩, .slice none 0 0] 46)) (Below.refl _ _) ?_; rotate_left; intro W5 hb5 hbx5 hoth5))
            try case cdb => first | exact ⟨rfl, rfl, rfl⟩ | (intro v hv; simp at hv; rcases hv with rfl | rfl | rfl <;> rfl)
            obtain ⟨Q, hQ⟩ : ∃ Q, Q = W4.heap.size := ⟨_, rfl⟩
            have hb45 : Below W4.heap.size W4 W5 := (alloc_below W4 (.cells #[.int .i64 0, .string ⟨#[]⟩, .slice none 0 0] 46)).trans hb5
            have HB5 := Lib.hid (show Below wr.heap.size wr W5 from HI4.out.1.trans (hb45.mono HI4.out.1.size))
            have HQ5 := Lib.hid (show W5.heap[Q]? = some (.cells #[.int .i64 k4, .string nm4, .slice h4.oa l4.length h4.cap] 46) ∧ wr.heap.size ≤ Q from ⟨by rw [hQ]; exact hbx5, by rw [hQ]; exact HI4.out.1.size⟩)
            have HT5 := Lib.hid (show TyH f4 (ebp W5 (fun y => kf y && (y != N + 1 && y != M))) (.mk k4 nm4 h4 l4) from TyH.und f4 _ _ _ (ebp_below hb45 _) HI4.out.2.2)
            simp only [← hQ]
            clear hb5 hbx5 hoth5 hb45 hQ m0 m1 m2 mf ml gp
            cases ok with
            | false =>
              have hno : R = none := by
                have h1 := HST.out
                rw [HI4.out.2.1] at h1
                exact h1.symm
              have HNO := Lib.hid hno
              clear hno
              go_wp2_with (refine wpList_store_box rfl 46 (.tmp 4) (.tmp 56) rfl (N + 1) 0 rfl (.agg #[.int .i64 0, .string ⟨#[]⟩, .slice none 0 0]) rfl [.int .i64 0, .string ⟨#[]⟩, .slice none 0 0] rfl [.int .i64 0, .string ⟨#[]⟩, .slice none 0 0] 46 ((HB5.out.block (N + 1) (blk_lt HRL.out.2.1)).trans HRL.out.2.1) (Nat.le_refl _) (show (Tryz.prog.info? 46).map (·.size) = some 3 by kernel_rfl) ?ceb (N + 1) (Nat.le_refl _) W5 (Below.refl _ _) ?_)
              try case ceb => first | exact ⟨rfl, rfl, rfl⟩ | (intro v hv; simp at hv; rcases hv with rfl | rfl | rfl <;> rfl)
              intro WF hb hbx hoth
              have HF := Lib.hid ((HRL.out.2.2.1.trans (HB5.out.mono HRL.out.2.2.1.size)).trans (hb.mono (by have := HN.out; omega)))
              obtain ⟨f0, f1, f2, ff, fl⟩ := cells3p hbx
              clear hb hbx hoth
              go_wp2
              refine bodyPost_ret (v := .tuple #[.agg #[.int .i64 0, .string ⟨#[]⟩, .slice none 0 0], .bool false, .int .i64 84]) (by simp [results, Tryz.results24, go_sem, f0, f1, f2]) rfl ⟨HF.out, ?_⟩
              rw [HNO.out]
              rfl
            | true =>
              obtain ⟨u0, u1, u2, uf, ul⟩ := cells3p HQ5.out.1
              go_wp2_with (refine wpList_store_box rfl 46 (.tmp 7) (.tmp 57) rfl M 0 rfl (.agg #[.int .i64 k4, .string nm4, .slice h4.oa l4.length h4.cap]) rfl [.int .i64 k4, .string nm4, .slice h4.oa l4.length h4.cap] rfl [.int .i64 k3, .string nm3, .slice h3.oa l3.length h3.cap] 46 ((HB5.out.block M (blk_lt HRL.out.1)).trans (show wr.heap[M]? = some (.cells #[.int .i64 k3, .string nm3, .slice h3.oa l3.length h3.cap] 46) from HRL.out.1)) (Nat.le_refl _) (show (Tryz.prog.info? 46).map (·.size) = some 3 by kernel_rfl) ?cfb M (Nat.le_refl _) W5 (Below.refl _ _) ?_)
              try case cfb => first | exact ⟨rfl, rfl, rfl⟩ | (intro v hv; simp at hv; rcases hv with rfl | rfl | rfl <;> rfl)
              intro W6 hb6 hbx6 hoth6
              have HF := Lib.hid (And.intro hb6 (And.intro hbx6 hoth6))
              clear hb6 hbx6 hoth6 u0 u1 u2 uf ul
              go_wp2
              go_roundw
              case rel =>
                have hr := HRL.out
                have hf := HF.out
                have hMN : N + 1 ≠ M := by have := HMG.out.1; omega
                have hst := HST.out
                rw [HI4.out.2.1] at hst
                have hlt := blk_lt hr.1
                refine ⟨i + 1, .mk k4 nm4 h4 l4, true, by omega, by first | rfl | simp, by go_num, hf.2.1, (hf.2.2 (N + 1) hMN).trans ((HB5.out.block (N + 1) (blk_lt hr.2.1)).trans hr.2.1), (hr.2.2.1.trans (HB5.out.mono hr.2.2.1.size)).trans (hf.1.mono (by have := HMG.out.1; have := HN.out; omega)), blk_lt hf.2.1, ?_, ?_⟩
                · exact ⟨f4, TyH.und f4 _ _ _ (ebp_und hf.1.size fun y hy hk => ⟨hk, hf.2.2 y (by simp at hk; exact hk.2.2)⟩) HT5.out⟩
                · first | exact hst | (simpa [kdT] using hst) | (simpa [kdT, e5] using hst)
              case measure => simp [intOf]; omega
          | false =>
            go_upto_region 9 with
              (first
                | (go_at_call 49; refine HIC.out.mono ?_; rintro e W4 ⟨hb4, ⟨k4, nm4, h4, l4⟩, ok, rfl, hi4, f4, hy4⟩; simp only [tyC]; have HI4 := Lib.hid (And.intro hb4 (And.intro hi4 hy4)); clear hb4 hi4 hy4)
                | (refine wpList_store_box rfl 46 (.tmp 11) (.tmp 52) rfl W4.heap.size 0 rfl (.agg #[.int .i64 k4, .string nm4, .slice h4.oa l4.length h4.cap]) rfl [.int .i64 k4, .string nm4, .slice h4.oa l4.length h4.cap] rfl [.int .i64 0, .string ⟨#[]⟩, .slice none 0 0] 46 (heap_alloc_new W4 (.cells #[.int .i64 0, .string ⟨#[]⟩, .slice none 0 0] 46)) (Nat.le_refl _) (show (Tryz.prog.info? 46).map (·.size) = some 3 by kernel_rfl) ?cdc W4.heap.size (Nat.le_refl _) (W4.alloc (.cells #[.int .i64 0, .string ⟨#[]⟩, .slice none 0 0] 46)) (Below.refl _ _) ?_; rotate_left; intro W5 hb5 hbx5 hoth5))
            try case cdc => first | exact ⟨rfl, rfl, rfl⟩ | (intro v hv; simp at hv; rcases hv with rfl | rfl | rfl <;> rfl)
            obtain ⟨Q, hQ⟩ : ∃ Q, Q = W4.heap.size := ⟨_, rfl⟩
            have hb45 : Below W4.heap.size W4 W5 := (alloc_below W4 (.cells #[.int .i64 0, .string ⟨#[]⟩, .slice none 0 0] 46)).trans hb5
            have HB5 := Lib.hid (show Below wr.heap.size wr W5 from HI4.out.1.trans (hb45.mono HI4.out.1.size))
            have HQ5 := Lib.hid (show W5.heap[Q]? = some (.cells #[.int .i64 k4, .string nm4, .slice h4.oa l4.length h4.cap] 46) ∧ wr.heap.size ≤ Q from ⟨by rw [hQ]; exact hbx5, by rw [hQ]; exact HI4.out.1.size⟩)
            have HT5 := Lib.hid (show TyH f4 (ebp W5 (fun y => kf y && (y != N + 1 && y != M))) (.mk k4 nm4 h4 l4) from TyH.und f4 _ _ _ (ebp_below hb45 _) HI4.out.2.2)
            simp only [← hQ]
            clear hb5 hbx5 hoth5 hb45 hQ m0 m1 m2 mf ml gp
            cases ok with
            | false =>
              have hno : R = none := by
                have h1 := HST.out
                rw [HI4.out.2.1] at h1
                exact h1.symm
              have HNO := Lib.hid hno
              clear hno
              go_wp2_with (refine wpList_store_box rfl 46 (.tmp 4) (.tmp 56) rfl (N + 1) 0 rfl (.agg #[.int .i64 0, .string ⟨#[]⟩, .slice none 0 0]) rfl [.int .i64 0, .string ⟨#[]⟩, .slice none 0 0] rfl [.int .i64 0, .string ⟨#[]⟩, .slice none 0 0] 46 ((HB5.out.block (N + 1) (blk_lt HRL.out.2.1)).trans HRL.out.2.1) (Nat.le_refl _) (show (Tryz.prog.info? 46).map (·.size) = some 3 by kernel_rfl) ?cec (N + 1) (Nat.le_refl _) W5 (Below.refl _ _) ?_)
              try case cec => first | exact ⟨rfl, rfl, rfl⟩ | (intro v hv; simp at hv; rcases hv with rfl | rfl | rfl <;> rfl)
              intro WF hb hbx hoth
              have HF := Lib.hid ((HRL.out.2.2.1.trans (HB5.out.mono HRL.out.2.2.1.size)).trans (hb.mono (by have := HN.out; omega)))
              obtain ⟨f0, f1, f2, ff, fl⟩ := cells3p hbx
              clear hb hbx hoth
              go_wp2
              refine bodyPost_ret (v := .tuple #[.agg #[.int .i64 0, .string ⟨#[]⟩, .slice none 0 0], .bool false, .int .i64 84]) (by simp [results, Tryz.results24, go_sem, f0, f1, f2]) rfl ⟨HF.out, ?_⟩
              rw [HNO.out]
              rfl
            | true =>
              obtain ⟨u0, u1, u2, uf, ul⟩ := cells3p HQ5.out.1
              go_wp2_with (refine wpList_store_box rfl 46 (.tmp 7) (.tmp 57) rfl M 0 rfl (.agg #[.int .i64 k4, .string nm4, .slice h4.oa l4.length h4.cap]) rfl [.int .i64 k4, .string nm4, .slice h4.oa l4.length h4.cap] rfl [.int .i64 k3, .string nm3, .slice h3.oa l3.length h3.cap] 46 ((HB5.out.block M (blk_lt HRL.out.1)).trans (show wr.heap[M]? = some (.cells #[.int .i64 k3, .string nm3, .slice h3.oa l3.length h3.cap] 46) from HRL.out.1)) (Nat.le_refl _) (show (Tryz.prog.info? 46).map (·.size) = some 3 by kernel_rfl) ?cfc M (Nat.le_refl _) W5 (Below.refl _ _) ?_)
              try case cfc => first | exact ⟨rfl, rfl, rfl⟩ | (intro v hv; simp at hv; rcases hv with rfl | rfl | rfl <;> rfl)
              intro W6 hb6 hbx6 hoth6
              have HF := Lib.hid (And.intro hb6 (And.intro hbx6 hoth6))
              clear hb6 hbx6 hoth6 u0 u1 u2 uf ul
              go_wp2
              go_roundw
              case rel =>
                have hr := HRL.out
                have hf := HF.out
                have hMN : N + 1 ≠ M := by have := HMG.out.1; omega
                have hst := HST.out
                rw [HI4.out.2.1] at hst
                have hlt := blk_lt hr.1
                refine ⟨i + 1, .mk k4 nm4 h4 l4, false, by omega, by first | rfl | simp, by go_num, hf.2.1, (hf.2.2 (N + 1) hMN).trans ((HB5.out.block (N + 1) (blk_lt hr.2.1)).trans hr.2.1), (hr.2.2.1.trans (HB5.out.mono hr.2.2.1.size)).trans (hf.1.mono (by have := HMG.out.1; have := HN.out; omega)), blk_lt hf.2.1, ?_, ?_⟩
                · exact ⟨f4, TyH.und f4 _ _ _ (ebp_und hf.1.size fun y hy hk => ⟨hk, hf.2.2 y (by simp at hk; exact hk.2.2)⟩) HT5.out⟩
                · first | exact hst | (simpa [kdT] using hst) | (simpa [kdT, e5] using hst)
              case measure => simp [intOf]; omega
      · have t1 : decide ((i : Int) < np) = false := by simp; omega
        obtain rfl : i = np := by omega
        have hend := HRL.out.2.2.2.2.2
        rw [show path.drop i = [] by rw [← HNL.out.1]; exact List.drop_length, pathR2] at hend
        have HEND := Lib.hid hend
        clear hend
        obtain ⟨k3, nm3, h3, l3⟩ := tt
        obtain ⟨m0, m1, m2, mf, ml⟩ := cells3p (show wr.heap[M]? = some (.cells #[.int .i64 k3, .string nm3, .slice h3.oa l3.length h3.cap] 46) from HRL.out.1)
        go_wp2_with (refine wpList_store_box rfl 46 (.tmp 4) (.tmp 59) rfl (N + 1) 0 rfl (.agg #[.int .i64 k3, .string nm3, .slice h3.oa l3.length h3.cap]) rfl [.int .i64 k3, .string nm3, .slice h3.oa l3.length h3.cap] rfl [.int .i64 0, .string ⟨#[]⟩, .slice none 0 0] 46 HRL.out.2.1 (Nat.le_refl _) (show (Tryz.prog.info? 46).map (·.size) = some 3 by kernel_rfl) ?cc1 (N + 1) (Nat.le_refl _) wr (Below.refl _ _) ?_)
        try case cc1 => first | exact ⟨rfl, rfl, rfl⟩ | (intro v hv; simp at hv; rcases hv with rfl | rfl | rfl <;> rfl)
        intro WF hb hbx hoth
        have HF := Lib.hid (HRL.out.2.2.1.trans (hb.mono (by have := HN.out; omega)))
        have HSZ := Lib.hid hb.size
        have HOT := Lib.hid hoth
        obtain ⟨f0, f1, f2, ff, fl⟩ := cells3p hbx
        clear hb hbx hoth m0 m1 m2 mf ml
        go_wp2
        refine bodyPost_ret (v := .tuple #[.agg #[.int .i64 k3, .string nm3, .slice h3.oa l3.length h3.cap], .bool sb, .int .i64 0]) (by simp [results, Tryz.results24, go_sem, f0, f1, f2]) rfl ⟨HF.out, ?_⟩
        rw [← HEND.out]
        unfold SpotK
        exact ⟨.mk k3 nm3 h3 l3, rfl, rfl, f, TyH.und f _ _ _ (ebp_und (by exact HSZ.out) fun y _ hy => by simp at hy; exact ⟨hy.1, HOT.out y hy.2.1⟩) HRL.out.2.2.2.2.1⟩
theorem spot_any (n : Nat) (s : So5) (b : Bo) (v : Nat) (x : Sp) (w : World) (hs : SoH n w s) (hsn : SoN s) (hv : ViewAt w v s b) (hb : BoH n w b) (hx : SpH w x) :
    Calls Tryz.prog 24 #[.pointer (some ⟨v, 0, none⟩), spV x] w fun e w' => Below w.heap.size w w' ∧ SpotP w' (spotR s n b x) e :=
  (spotK_any (fun _ => true) n s b v x w hs hsn hv hb hx (fun _ _ => rfl) fun lo hlo => TyH.und n _ _ _ ⟨by rw [ebp_size]; exact Nat.le_refl _, fun p v hv => (World.cell?_of_block (ebp_heap rfl)).trans hv⟩ (hb.2.1.2.2.2 lo hlo)).mono fun _ _ h => ⟨h.1, h.2.all⟩

end Go.Proofs.YtghkbihgdabamaaGreatDoor
