/-
  mir's opens: is a spot an enum of which a value tells a variant, and where what that holds comes to. Conditions: the view, its source, its body, the spot and the value lie in the heap; types are not too large; an enum that a local is of is there.
-/
import Derived.Test.YtghkbihgdabamaaGreatDoorKQSets
import Derived.Test.YtghkbihgdabamaaGreatDoorKQEnumV
namespace Go.Proofs.YtghkbihgdabamaaGreatDoor
open Go.RowKit

/-- an enum that a local is of is there -/
def EnOk (s : So5) (n : Nat) (b : Bo) : Prop := ∀ x r, spotR s n b x = some r → x.path.length = 0 → kdT r.1 = 3 → enPl s r.1 ≠ -1
def opensO (s : So5) (n : Nat) (b : Bo) (v : Va) : Option En5 → Bool
  | some e => match plB v.tag e.vars.length, e.vars[v.tag.toNat]? with
    | true, some y => heldB s n n b v.s y.ty && noVaB ⟨v.k, v.h, v.uses, ⟨0, h0, []⟩, v.which, 0⟩
    | _, _ => false
  | none => false
def opensB (s : So5) (n : Nat) (b : Bo) (x : Sp) (v : Va) : Bool := opensO s n b v (enV5 s (spotR s n b x) x.path.length)
theorem enV5_mem {s : So5} {R : Option (Ty5 × Bool)} {np : Nat} {e : En5} (h : enV5 s R np = some e) : e ∈ s.enums := by
  unfold enV5 at h
  cases R with
  | none => cases h
  | some r =>
    dsimp only at h
    by_cases hc : np = 0 ∧ kdT r.1 = 3
    · rw [if_pos hc] at h
      exact List.mem_of_getElem? h
    · rw [if_neg hc] at h
      cases h
theorem info_in : (Tryz.prog.info? 3).map (·.size) = some 1 := by kernel_rfl
set_option maxRecDepth 100000 in
set_option maxHeartbeats 40000000 in
theorem opens_any (n : Nat) (s : So5) (b : Bo) (v : Nat) (x : Sp) (z : Va) (w : World) (hs : SoH n w s) (hsn : SoN s) (hv : ViewAt w v s b) (hb : BoH n w b) (hx : SpH w x) (hz : VaH w z) (hen : EnOk s n b) :
    Calls Tryz.prog 104 #[.pointer (some ⟨v, 0, none⟩), spV x, vaV z] w fun e w' => e = .returned (.bool (opensB s n b x z)) ∧ Below w.heap.size w w' := by
  unfold opensB
  have hev := fun W h1 => enum_any n s b v x W (SoH.below hs h1) hsn (hv.below h1) (BoH.below hb h1) (SpH.below hx h1) (hen x)
  have hhl := fun (d : Ty5) W (h1 : Below w.heap.size w W) (hd : TyH n w d) (hdn : tyN d ≤ 1000000) => held_any n n s b v z.s d W (SoH.below hs h1) hsn (hv.below h1) (BoH.below hb h1) (SpH.below hz.2.2.1 h1) (TyH.below n hd h1) hdn
  have hnv := fun W => isNoValue_any ⟨z.k, z.h, z.uses, ⟨0, h0, []⟩, z.which, 0⟩ W
  obtain ⟨R, hR⟩ : ∃ R, enV5 s (spotR s n b x) x.path.length = R := ⟨_, rfl⟩
  have hmem : ∀ e, R = some e → e ∈ s.enums := fun e he => enV5_mem (hR.trans he)
  simp only [hR] at hev ⊢
  obtain ⟨loc, ph, path⟩ := x
  obtain ⟨np, hnp⟩ : ∃ n, path.length = n := ⟨_, rfl⟩
  have HSS := Lib.hid (And.intro hs hsn)
  have HMM := Lib.hid hmem
  obtain ⟨BN, hBN⟩ : ∃ B, noVaB ⟨z.k, z.h, z.uses, ⟨0, h0, []⟩, z.which, 0⟩ = B := ⟨_, rfl⟩
  simp only [hBN] at hnv
  have HBN := Lib.hid hBN
  obtain ⟨k, hu, uses, ⟨loc2, ph2, path2⟩, which, tag⟩ := z
  obtain ⟨nu, hnu⟩ : ∃ n, uses.length = n := ⟨_, rfl⟩
  obtain ⟨np2, hnp2⟩ : ∃ n, path2.length = n := ⟨_, rfl⟩
  obtain ⟨RR, hRR⟩ : ∃ B, opensO s n b ⟨k, hu, uses, ⟨loc2, ph2, path2⟩, which, tag⟩ R = B := ⟨_, rfl⟩
  have HRR := Lib.hid hRR
  rw [hRR]
  simp only [vaV, vaC, spV, spC, List.cons_append, List.nil_append, hnu, hnp, hnp2] at hev hhl hnv ⊢
  change ∀ W, Calls _ _ #[.agg #[.int .i64 k, .slice hu.oa nu hu.cap, .int .i64 0, .slice none 0 0, .int .i64 which, .int .i64 0]] W _ at hnv
  have HEV := Lib.hid hev
  have HHL := Lib.hid hhl
  have HNV := Lib.hid hnv
  obtain ⟨W0, hW⟩ : ∃ W, W = (w.alloc (.cells #[.int .i64 loc, .slice ph.oa np ph.cap] 33)).alloc (.cells #[.int .i64 k, .slice hu.oa nu hu.cap, .int .i64 loc2, .slice ph2.oa np2 ph2.cap, .int .i64 which, .int .i64 tag] 37) := ⟨_, rfl⟩
  obtain ⟨hb0, hx0, hx1⟩ := pal2 w (.cells #[.int .i64 loc, .slice ph.oa np ph.cap] 33) (.cells #[.int .i64 k, .slice hu.oa nu hu.cap, .int .i64 loc2, .slice ph2.oa np2 ph2.cap, .int .i64 which, .int .i64 tag] 37)
  rw [← hW] at hb0 hx0 hx1
  obtain ⟨N, hN⟩ : ∃ N, N = w.heap.size := ⟨_, rfl⟩
  rw [← hN] at hx0 hx1
  have HB0 := Lib.hid (And.intro hb0 (And.intro hx0 hx1))
  have HN1 := Lib.hid (show w.heap.size ≤ N + 1 by omega)
  clear hs hsn hv hb hx hz hen hev hhl hnv hR hRR hnu hnp hnp2 hb0 hmem hBN
  obtain ⟨p0, p1, pf, pl⟩ := cells2p hx0
  clear hx0 hx1
  go_enter Tryz.func104, Tryz.ntmps104
  go_upto_region 1 with fail
  rw [← hW]
  clear hW
  try simp only [← hN]
  clear hN
  cases R with
  | none =>
    have HF := Lib.hid (show false = RR from HRR.out)
    go_upto_region 2 with (go_loud (go_at_call 126; refine (HEV.out W0 HB0.out.1).mono ?_; rintro e W1 ⟨rfl, hb1⟩; have HB1 := Lib.hid (HB0.out.1.trans (hb1.mono HB0.out.1.size)); clear hb1))
    clear p0 p1 pf pl
    refine wp_region_held_drew (S := (fun _ => True)) (by kernel_rfl) ?_ (fun hHeld => ?_)
    · trivial
    refine wpAnyH_take (i := 0) (oi := { dst := some 15, op := Op.move (Operand.tmp 8), type := 4, pos := "valid.go:83", after := #[], guard := none }) (v := ?vq0_1) rfl (by kernel_rfl) (by kernel_rfl) (by kernel_rfl) (fun _ _ _ h => h) (Or.inl ⟨by rfl, ?hq0_1⟩) (by assumption) ?_
    case hq0_1 => intro w hSw; (try dsimp only at hSw); go_simp; try (with_reducible rfl)
    (try simp only [Act.put, qA, qB, qC])
    refine wpAnyH_take (i := 1) (oi := { dst := some 16, op := Op.unOp UnOp.not 4 (Operand.tmp 15), type := 4, pos := "valid.go:83", after := #[{ on := 0, ground := Ground.data }], guard := none }) (v := ?vq1_2) rfl (by kernel_rfl) (by kernel_rfl) (by kernel_rfl) (fun _ _ _ h => h) (Or.inl ⟨by rfl, ?hq1_2⟩) (by assumption) ?_
    case hq1_2 => intro w hSw; (try dsimp only at hSw); go_simp; try (with_reducible rfl)
    (try simp only [Act.put, qA, qB, qC])
    refine wpAnyH_take (i := 2) (oi := { dst := some 17, op := Op.move (Operand.tmp 16), type := 4, pos := "valid.go:83", after := #[{ on := 1, ground := Ground.data }], guard := none }) (v := ?vq2_3) rfl (by kernel_rfl) (by kernel_rfl) (by kernel_rfl) (fun _ _ _ h => h) (Or.inl ⟨by rfl, ?hq2_3⟩) (by assumption) ?_
    case hq2_3 => intro w hSw; (try dsimp only at hSw); go_simp; try (with_reducible rfl)
    (try simp only [Act.put, qA, qB, qC])
    refine wpAnyH_take (i := 3) (oi := { dst := some 18, op := Op.fieldAddr 37 (Operand.tmp 5) 4, type := 0, pos := "valid.go:83", after := #[{ on := 2, ground := Ground.guard }], guard := some (2, false) }) (v := undef) rfl (by kernel_rfl) (by kernel_rfl) (by kernel_rfl) (fun _ _ _ h => h) (Or.inr ⟨by rfl, rfl⟩) (by assumption) ?_
    (try simp only [Act.put, qA, qB, qC])
    refine wpAnyH_take (i := 4) (oi := { dst := some 19, op := Op.load 3 (Operand.tmp 18), type := 3, pos := "valid.go:83", after := #[{ on := 3, ground := Ground.data }, { on := 2, ground := Ground.guard }], guard := some (2, false) }) (v := undef) rfl (by kernel_rfl) (by kernel_rfl) (by kernel_rfl) (fun _ _ _ h => h) (Or.inr ⟨by rfl, rfl⟩) (by assumption) ?_
    (try simp only [Act.put, qA, qB, qC])
    refine wpAnyH_take (i := 5) (oi := { dst := some 20, op := Op.move (Operand.tmp 7), type := 72, pos := "valid.go:83", after := #[{ on := 2, ground := Ground.guard }], guard := some (2, false) }) (v := undef) rfl (by kernel_rfl) (by kernel_rfl) (by kernel_rfl) (fun _ _ _ h => h) (Or.inr ⟨by rfl, rfl⟩) (by assumption) ?_
    (try simp only [Act.put, qA, qB, qC])
    refine wpAnyH_take (i := 6) (oi := { dst := some 21, op := Op.call { callee := Callee.builtin Builtin.len, args := #[Operand.tmp 20], argTypes := #[72] }, type := 3, pos := "valid.go:83", after := #[{ on := 5, ground := Ground.data }, { on := 2, ground := Ground.guard }], guard := some (2, false) }) (v := undef) rfl (by kernel_rfl) (by kernel_rfl) (by kernel_rfl) (fun _ _ _ h => h) (Or.inr ⟨by rfl, rfl⟩) (by assumption) ?_
    (try simp only [Act.put, qA, qB, qC])
    refine wpAnyH_take (i := 7) (oi := { dst := some 22, op := Op.call { callee := Callee.value (Operand.func 48), args := #[Operand.tmp 19, Operand.tmp 21], argTypes := #[3, 3] }, type := 4, pos := "valid.go:83", after := #[{ on := 4, ground := Ground.data }, { on := 6, ground := Ground.data }, { on := 2, ground := Ground.chain }, { on := 2, ground := Ground.guard }], guard := some (2, false) }) (v := undef) rfl (by kernel_rfl) (by kernel_rfl) (by kernel_rfl) (fun _ _ _ h => h) (Or.inr ⟨by rfl, rfl⟩) (by assumption) ?_
    (try simp only [Act.put, qA, qB, qC])
    refine wpAnyH_take (i := 8) (oi := { dst := some 23, op := Op.unOp UnOp.not 4 (Operand.tmp 22), type := 4, pos := "valid.go:83", after := #[{ on := 7, ground := Ground.data }, { on := 2, ground := Ground.guard }], guard := some (2, false) }) (v := undef) rfl (by kernel_rfl) (by kernel_rfl) (by kernel_rfl) (fun _ _ _ h => h) (Or.inr ⟨by rfl, rfl⟩) (by assumption) ?_
    (try simp only [Act.put, qA, qB, qC])
    refine wpAnyH_take (i := 9) (oi := { dst := some 24, op := Op.pick (Operand.tmp 17) (Operand.const (Value.bool true)) (Operand.tmp 23), type := 4, pos := "valid.go:83", after := #[{ on := 2, ground := Ground.data }, { on := 8, ground := Ground.data }], guard := none }) (v := ?vq9_10) rfl (by kernel_rfl) (by kernel_rfl) (by kernel_rfl) (fun _ _ _ h => h) (Or.inl ⟨by rfl, ?hq9_10⟩) (by assumption) ?_
    case hq9_10 => intro w hSw; (try dsimp only at hSw); go_simp; try (with_reducible rfl)
    (try simp only [Act.put, qA, qB, qC])
    refine wpAnyH_take (i := 10) (oi := { dst := some 25, op := Op.move (Operand.tmp 24), type := 4, pos := "valid.go:83", after := #[{ on := 9, ground := Ground.data }, { on := 7, ground := Ground.chain }], guard := none }) (v := ?vq10_11) rfl (by kernel_rfl) (by kernel_rfl) (by kernel_rfl) (fun _ _ _ h => h) (Or.inl ⟨by rfl, ?hq10_11⟩) (by assumption) ?_
    case hq10_11 => intro w hSw; (try dsimp only at hSw); go_simp; try (with_reducible rfl)
    (try simp only [Act.put, qA, qB, qC])
    refine wpAnyH_take (i := 11) (oi := { dst := some 26, op := Op.move (Operand.tmp 0), type := 85, pos := "valid.go:83", after := #[{ on := 10, ground := Ground.guard }], guard := some (10, false) }) (v := undef) rfl (by kernel_rfl) (by kernel_rfl) (by kernel_rfl) (fun _ _ _ h => h) (Or.inr ⟨by rfl, rfl⟩) (by assumption) ?_
    (try simp only [Act.put, qA, qB, qC])
    refine wpAnyH_take (i := 12) (oi := { dst := some 27, op := Op.fieldAddr 37 (Operand.tmp 5) 2, type := 0, pos := "valid.go:83", after := #[{ on := 10, ground := Ground.guard }], guard := some (10, false) }) (v := undef) rfl (by kernel_rfl) (by kernel_rfl) (by kernel_rfl) (fun _ _ _ h => h) (Or.inr ⟨by rfl, rfl⟩) (by assumption) ?_
    (try simp only [Act.put, qA, qB, qC])
    refine wpAnyH_take (i := 13) (oi := { dst := some 28, op := Op.load 33 (Operand.tmp 27), type := 33, pos := "valid.go:83", after := #[{ on := 12, ground := Ground.data }, { on := 10, ground := Ground.guard }], guard := some (10, false) }) (v := undef) rfl (by kernel_rfl) (by kernel_rfl) (by kernel_rfl) (fun _ _ _ h => h) (Or.inr ⟨by rfl, rfl⟩) (by assumption) ?_
    (try simp only [Act.put, qA, qB, qC])
    refine wpAnyH_take (i := 14) (oi := { dst := some 29, op := Op.move (Operand.tmp 7), type := 72, pos := "valid.go:83", after := #[{ on := 10, ground := Ground.guard }], guard := some (10, false) }) (v := undef) rfl (by kernel_rfl) (by kernel_rfl) (by kernel_rfl) (fun _ _ _ h => h) (Or.inr ⟨by rfl, rfl⟩) (by assumption) ?_
    (try simp only [Act.put, qA, qB, qC])
    refine wpAnyH_take (i := 15) (oi := { dst := some 30, op := Op.fieldAddr 37 (Operand.tmp 5) 4, type := 0, pos := "valid.go:83", after := #[{ on := 10, ground := Ground.guard }], guard := some (10, false) }) (v := undef) rfl (by kernel_rfl) (by kernel_rfl) (by kernel_rfl) (fun _ _ _ h => h) (Or.inr ⟨by rfl, rfl⟩) (by assumption) ?_
    (try simp only [Act.put, qA, qB, qC])
    refine wpAnyH_take (i := 16) (oi := { dst := some 31, op := Op.load 3 (Operand.tmp 30), type := 3, pos := "valid.go:83", after := #[{ on := 15, ground := Ground.data }, { on := 10, ground := Ground.guard }], guard := some (10, false) }) (v := undef) rfl (by kernel_rfl) (by kernel_rfl) (by kernel_rfl) (fun _ _ _ h => h) (Or.inr ⟨by rfl, rfl⟩) (by assumption) ?_
    (try simp only [Act.put, qA, qB, qC])
    refine wpAnyH_take (i := 17) (oi := { dst := some 32, op := Op.indexAddr 72 (Operand.tmp 29) (Operand.tmp 31), type := 0, pos := "valid.go:83", after := #[{ on := 14, ground := Ground.data }, { on := 16, ground := Ground.data }, { on := 10, ground := Ground.guard }], guard := some (10, false) }) (v := undef) rfl (by kernel_rfl) (by kernel_rfl) (by kernel_rfl) (fun _ _ _ h => h) (Or.inr ⟨by rfl, rfl⟩) (by assumption) ?_
    (try simp only [Act.put, qA, qB, qC])
    refine wpAnyH_take (i := 18) (oi := { dst := some 33, op := Op.fieldAddr 76 (Operand.tmp 32) 1, type := 0, pos := "valid.go:83", after := #[{ on := 17, ground := Ground.data }, { on := 10, ground := Ground.guard }], guard := some (10, false) }) (v := undef) rfl (by kernel_rfl) (by kernel_rfl) (by kernel_rfl) (fun _ _ _ h => h) (Or.inr ⟨by rfl, rfl⟩) (by assumption) ?_
    (try simp only [Act.put, qA, qB, qC])
    refine wpAnyH_take (i := 19) (oi := { dst := some 34, op := Op.load 46 (Operand.tmp 33), type := 46, pos := "valid.go:83", after := #[{ on := 18, ground := Ground.data }, { on := 10, ground := Ground.guard }], guard := some (10, false) }) (v := undef) rfl (by kernel_rfl) (by kernel_rfl) (by kernel_rfl) (fun _ _ _ h => h) (Or.inr ⟨by rfl, rfl⟩) (by assumption) ?_
    (try simp only [Act.put, qA, qB, qC])
    refine wpAnyH_take (i := 20) (oi := { dst := some 35, op := Op.call { callee := Callee.value (Operand.func 127), args := #[Operand.tmp 26, Operand.tmp 28, Operand.tmp 34], argTypes := #[85, 33, 46] }, type := 4, pos := "valid.go:83", after := #[{ on := 11, ground := Ground.data }, { on := 13, ground := Ground.data }, { on := 19, ground := Ground.data }, { on := 10, ground := Ground.chain }, { on := 10, ground := Ground.guard }], guard := some (10, false) }) (v := undef) rfl (by kernel_rfl) (by kernel_rfl) (by kernel_rfl) (fun _ _ _ h => h) (Or.inr ⟨by rfl, rfl⟩) (by assumption) ?_
    (try simp only [Act.put, qA, qB, qC])
    refine wpAnyH_take (i := 21) (oi := { dst := some 36, op := Op.unOp UnOp.not 4 (Operand.tmp 35), type := 4, pos := "valid.go:83", after := #[{ on := 20, ground := Ground.data }, { on := 10, ground := Ground.guard }], guard := some (10, false) }) (v := undef) rfl (by kernel_rfl) (by kernel_rfl) (by kernel_rfl) (fun _ _ _ h => h) (Or.inr ⟨by rfl, rfl⟩) (by assumption) ?_
    (try simp only [Act.put, qA, qB, qC])
    refine wpAnyH_take (i := 22) (oi := { dst := some 37, op := Op.pick (Operand.tmp 25) (Operand.const (Value.bool true)) (Operand.tmp 36), type := 4, pos := "valid.go:83", after := #[{ on := 10, ground := Ground.data }, { on := 21, ground := Ground.data }], guard := none }) (v := ?vq22_23) rfl (by kernel_rfl) (by kernel_rfl) (by kernel_rfl) (fun _ _ _ h => h) (Or.inl ⟨by rfl, ?hq22_23⟩) (by assumption) ?_
    case hq22_23 => intro w hSw; (try dsimp only at hSw); go_simp; try (with_reducible rfl)
    (try simp only [Act.put, qA, qB, qC])
    refine wpAnyH_done (by kernel_rfl) ?_ _
    go_wp2
    go_ret
    exact ⟨by rw [← HF.out]; first | done | rfl, HB1.out.drew⟩
  | some en =>
    obtain ⟨enm, eh, evs, ep⟩ := en
    have hme := HMM.out _ rfl
    have hev5 := HSS.out.1.2.1.2.2.2 _ hme
    obtain ⟨oe, ce⟩ := eh
    obtain ⟨g1, g2, g3, g4⟩ := hev5
    dsimp only at g1 g2 g3 g4
    unfold maxLen at g2
    obtain ⟨ne, hne⟩ : ∃ n, evs.length = n := ⟨_, rfl⟩
    obtain ⟨B1, hB1⟩ : ∃ B, plB tag ne = B := ⟨_, rfl⟩
    have hpl := fun W => isPlace_any tag (ne : Int) W
    simp only [hB1] at hpl
    have HPL := Lib.hid hpl
    have HNE := Lib.hid hne
    have HB1P := Lib.hid hB1
    rw [hne] at g1
    clear hpl
    go_upto_region 2 with (go_loud (go_at_call 126; refine (HEV.out W0 HB0.out.1).mono ?_; rintro e W1 ⟨rfl, hb1⟩; simp only [HNE.out]; have HX1 := Lib.hid (And.intro (HB0.out.1.trans (hb1.mono HB0.out.1.size)) ((hb1.block (N + 1) (blk_lt HB0.out.2.2)).trans HB0.out.2.2)); clear hb1))
    clear p0 p1 pf pl
    have hx1 := HX1.out.2
    obtain ⟨v0, v1, v2, v3, v4, v5⟩ : W1.cell? ⟨N + 1, 0, none⟩ = some (.int .i64 k) ∧ W1.cell? ⟨N + 1, 1, none⟩ = some (.slice hu.oa nu hu.cap) ∧ W1.cell? ⟨N + 1, 2, none⟩ = some (.int .i64 loc2) ∧ W1.cell? ⟨N + 1, 2 + 1, none⟩ = some (.slice ph2.oa np2 ph2.cap) ∧ W1.cell? ⟨N + 1, 4, none⟩ = some (.int .i64 which) ∧ W1.cell? ⟨N + 1, 5, none⟩ = some (.int .i64 tag) := by
      refine ⟨?_, ?_, ?_, ?_, ?_, ?_⟩ <;> simp [World.cell?, hx1]
    clear hx1
    cases B1 with
    | false =>
      have HF := Lib.hid (show false = RR from by
        have h := HRR.out
        unfold opensO at h
        dsimp only at h
        rw [HNE.out, HB1P.out] at h
        exact h)
      clear g3 g4 hme hne hB1
      refine wp_region_held_drew (S := (fun w' => w'.cell? ⟨N + 1, 5, none⟩ = some (.int .i64 tag))) (by kernel_rfl) ?_ (fun hHeld => ?_)
      · exact v5
      clear v0 v1 v2 v3 v4 v5
      refine wpAnyH_take (i := 0) (oi := { dst := some 15, op := Op.move (Operand.tmp 8), type := 4, pos := "valid.go:83", after := #[], guard := none }) (v := ?vq0_24) rfl (by kernel_rfl) (by kernel_rfl) (by kernel_rfl) (fun _ _ _ h => h) (Or.inl ⟨by rfl, ?hq0_24⟩) (by assumption) ?_
      case hq0_24 => intro w hSw; (try dsimp only at hSw); go_simp; try (with_reducible rfl)
      (try simp only [Act.put, qA, qB, qC])
      refine wpAnyH_take (i := 1) (oi := { dst := some 16, op := Op.unOp UnOp.not 4 (Operand.tmp 15), type := 4, pos := "valid.go:83", after := #[{ on := 0, ground := Ground.data }], guard := none }) (v := ?vq1_25) rfl (by kernel_rfl) (by kernel_rfl) (by kernel_rfl) (fun _ _ _ h => h) (Or.inl ⟨by rfl, ?hq1_25⟩) (by assumption) ?_
      case hq1_25 => intro w hSw; (try dsimp only at hSw); go_simp; try (with_reducible rfl)
      (try simp only [Act.put, qA, qB, qC])
      refine wpAnyH_take (i := 2) (oi := { dst := some 17, op := Op.move (Operand.tmp 16), type := 4, pos := "valid.go:83", after := #[{ on := 1, ground := Ground.data }], guard := none }) (v := ?vq2_26) rfl (by kernel_rfl) (by kernel_rfl) (by kernel_rfl) (fun _ _ _ h => h) (Or.inl ⟨by rfl, ?hq2_26⟩) (by assumption) ?_
      case hq2_26 => intro w hSw; (try dsimp only at hSw); go_simp; try (with_reducible rfl)
      (try simp only [Act.put, qA, qB, qC])
      refine wpAnyH_take (i := 3) (oi := { dst := some 18, op := Op.fieldAddr 37 (Operand.tmp 5) 4, type := 0, pos := "valid.go:83", after := #[{ on := 2, ground := Ground.guard }], guard := some (2, false) }) (v := ?vq3_27) rfl (by kernel_rfl) (by kernel_rfl) (by kernel_rfl) (fun _ _ _ h => h) (Or.inl ⟨by rfl, ?hq3_27⟩) (by assumption) ?_
      case hq3_27 => intro w hSw; (try dsimp only at hSw); go_simp; try (with_reducible rfl)
      (try simp only [Act.put, qA, qB, qC])
      refine wpAnyH_take (i := 4) (oi := { dst := some 19, op := Op.load 3 (Operand.tmp 18), type := 3, pos := "valid.go:83", after := #[{ on := 3, ground := Ground.data }, { on := 2, ground := Ground.guard }], guard := some (2, false) }) (v := ?vq4_28) rfl (by kernel_rfl) (by kernel_rfl) (by kernel_rfl) (fun _ _ _ h => h) (Or.inl ⟨by rfl, ?hq4_28⟩) (by assumption) ?_
      case hq4_28 => intro w hSw; (try dsimp only at hSw); go_simp; try (with_reducible rfl)
      (try simp only [Act.put, qA, qB, qC])
      refine wpAnyH_take (i := 5) (oi := { dst := some 20, op := Op.move (Operand.tmp 7), type := 72, pos := "valid.go:83", after := #[{ on := 2, ground := Ground.guard }], guard := some (2, false) }) (v := ?vq5_29) rfl (by kernel_rfl) (by kernel_rfl) (by kernel_rfl) (fun _ _ _ h => h) (Or.inl ⟨by rfl, ?hq5_29⟩) (by assumption) ?_
      case hq5_29 => intro w hSw; (try dsimp only at hSw); go_simp; try (with_reducible rfl)
      (try simp only [Act.put, qA, qB, qC])
      refine wpAnyH_take (i := 6) (oi := { dst := some 21, op := Op.call { callee := Callee.builtin Builtin.len, args := #[Operand.tmp 20], argTypes := #[72] }, type := 3, pos := "valid.go:83", after := #[{ on := 5, ground := Ground.data }, { on := 2, ground := Ground.guard }], guard := some (2, false) }) (v := ?vq6_30) rfl (by kernel_rfl) (by kernel_rfl) (by kernel_rfl) (fun _ _ _ h => h) (Or.inl ⟨by rfl, ?hq6_30⟩) (by assumption) ?_
      case hq6_30 => intro w hSw; (try dsimp only at hSw); go_simp; try (with_reducible rfl)
      (try simp only [Act.put, qA, qB, qC])
      refine wpAnyH_ready (rs := [7]) (by kernel_rfl) (by simp) ?_
      refine AllReadyH.cons (o := { dst := some 22, op := Op.call { callee := Callee.value (Operand.func 48), args := #[Operand.tmp 19, Operand.tmp 21], argTypes := #[3, 3] }, type := 4, pos := "valid.go:83", after := #[{ on := 4, ground := Ground.data }, { on := 6, ground := Ground.data }, { on := 2, ground := Ground.chain }, { on := 2, ground := Ground.guard }], guard := some (2, false) }) rfl (fun K hK => ?_) AllReadyH.nil
      go_simp
      refine (HPL.out _).mono ?_
      rintro e W2 ⟨rfl, hw2⟩
      rw [hw2]
      clear hw2
      refine hK.out _ _ ?_ (fun hHeld => ?_)
      · exact (show W1.cell? ⟨N + 1, 5, none⟩ = _ from by have h := HX1.out.2; simp [World.cell?, h])
      clear hK K
      (try simp only [Act.put, qA, qB, qC])
      refine wpAnyH_take (i := 8) (oi := { dst := some 23, op := Op.unOp UnOp.not 4 (Operand.tmp 22), type := 4, pos := "valid.go:83", after := #[{ on := 7, ground := Ground.data }, { on := 2, ground := Ground.guard }], guard := some (2, false) }) (v := ?vq8_31) rfl (by kernel_rfl) (by kernel_rfl) (by kernel_rfl) (fun _ _ _ h => h) (Or.inl ⟨by rfl, ?hq8_31⟩) (by assumption) ?_
      case hq8_31 => intro w hSw; (try dsimp only at hSw); go_simp; try (with_reducible rfl)
      (try simp only [Act.put, qA, qB, qC])
      refine wpAnyH_take (i := 9) (oi := { dst := some 24, op := Op.pick (Operand.tmp 17) (Operand.const (Value.bool true)) (Operand.tmp 23), type := 4, pos := "valid.go:83", after := #[{ on := 2, ground := Ground.data }, { on := 8, ground := Ground.data }], guard := none }) (v := ?vq9_32) rfl (by kernel_rfl) (by kernel_rfl) (by kernel_rfl) (fun _ _ _ h => h) (Or.inl ⟨by rfl, ?hq9_32⟩) (by assumption) ?_
      case hq9_32 => intro w hSw; (try dsimp only at hSw); go_simp; try (with_reducible rfl)
      (try simp only [Act.put, qA, qB, qC])
      refine wpAnyH_take (i := 10) (oi := { dst := some 25, op := Op.move (Operand.tmp 24), type := 4, pos := "valid.go:83", after := #[{ on := 9, ground := Ground.data }, { on := 7, ground := Ground.chain }], guard := none }) (v := ?vq10_33) rfl (by kernel_rfl) (by kernel_rfl) (by kernel_rfl) (fun _ _ _ h => h) (Or.inl ⟨by rfl, ?hq10_33⟩) (by assumption) ?_
      case hq10_33 => intro w hSw; (try dsimp only at hSw); go_simp; try (with_reducible rfl)
      (try simp only [Act.put, qA, qB, qC])
      refine wpAnyH_take (i := 11) (oi := { dst := some 26, op := Op.move (Operand.tmp 0), type := 85, pos := "valid.go:83", after := #[{ on := 10, ground := Ground.guard }], guard := some (10, false) }) (v := undef) rfl (by kernel_rfl) (by kernel_rfl) (by kernel_rfl) (fun _ _ _ h => h) (Or.inr ⟨by rfl, rfl⟩) (by assumption) ?_
      (try simp only [Act.put, qA, qB, qC])
      refine wpAnyH_take (i := 12) (oi := { dst := some 27, op := Op.fieldAddr 37 (Operand.tmp 5) 2, type := 0, pos := "valid.go:83", after := #[{ on := 10, ground := Ground.guard }], guard := some (10, false) }) (v := undef) rfl (by kernel_rfl) (by kernel_rfl) (by kernel_rfl) (fun _ _ _ h => h) (Or.inr ⟨by rfl, rfl⟩) (by assumption) ?_
      (try simp only [Act.put, qA, qB, qC])
      refine wpAnyH_take (i := 13) (oi := { dst := some 28, op := Op.load 33 (Operand.tmp 27), type := 33, pos := "valid.go:83", after := #[{ on := 12, ground := Ground.data }, { on := 10, ground := Ground.guard }], guard := some (10, false) }) (v := undef) rfl (by kernel_rfl) (by kernel_rfl) (by kernel_rfl) (fun _ _ _ h => h) (Or.inr ⟨by rfl, rfl⟩) (by assumption) ?_
      (try simp only [Act.put, qA, qB, qC])
      refine wpAnyH_take (i := 14) (oi := { dst := some 29, op := Op.move (Operand.tmp 7), type := 72, pos := "valid.go:83", after := #[{ on := 10, ground := Ground.guard }], guard := some (10, false) }) (v := undef) rfl (by kernel_rfl) (by kernel_rfl) (by kernel_rfl) (fun _ _ _ h => h) (Or.inr ⟨by rfl, rfl⟩) (by assumption) ?_
      (try simp only [Act.put, qA, qB, qC])
      refine wpAnyH_take (i := 15) (oi := { dst := some 30, op := Op.fieldAddr 37 (Operand.tmp 5) 4, type := 0, pos := "valid.go:83", after := #[{ on := 10, ground := Ground.guard }], guard := some (10, false) }) (v := undef) rfl (by kernel_rfl) (by kernel_rfl) (by kernel_rfl) (fun _ _ _ h => h) (Or.inr ⟨by rfl, rfl⟩) (by assumption) ?_
      (try simp only [Act.put, qA, qB, qC])
      refine wpAnyH_take (i := 16) (oi := { dst := some 31, op := Op.load 3 (Operand.tmp 30), type := 3, pos := "valid.go:83", after := #[{ on := 15, ground := Ground.data }, { on := 10, ground := Ground.guard }], guard := some (10, false) }) (v := undef) rfl (by kernel_rfl) (by kernel_rfl) (by kernel_rfl) (fun _ _ _ h => h) (Or.inr ⟨by rfl, rfl⟩) (by assumption) ?_
      (try simp only [Act.put, qA, qB, qC])
      refine wpAnyH_take (i := 17) (oi := { dst := some 32, op := Op.indexAddr 72 (Operand.tmp 29) (Operand.tmp 31), type := 0, pos := "valid.go:83", after := #[{ on := 14, ground := Ground.data }, { on := 16, ground := Ground.data }, { on := 10, ground := Ground.guard }], guard := some (10, false) }) (v := undef) rfl (by kernel_rfl) (by kernel_rfl) (by kernel_rfl) (fun _ _ _ h => h) (Or.inr ⟨by rfl, rfl⟩) (by assumption) ?_
      (try simp only [Act.put, qA, qB, qC])
      refine wpAnyH_take (i := 18) (oi := { dst := some 33, op := Op.fieldAddr 76 (Operand.tmp 32) 1, type := 0, pos := "valid.go:83", after := #[{ on := 17, ground := Ground.data }, { on := 10, ground := Ground.guard }], guard := some (10, false) }) (v := undef) rfl (by kernel_rfl) (by kernel_rfl) (by kernel_rfl) (fun _ _ _ h => h) (Or.inr ⟨by rfl, rfl⟩) (by assumption) ?_
      (try simp only [Act.put, qA, qB, qC])
      refine wpAnyH_take (i := 19) (oi := { dst := some 34, op := Op.load 46 (Operand.tmp 33), type := 46, pos := "valid.go:83", after := #[{ on := 18, ground := Ground.data }, { on := 10, ground := Ground.guard }], guard := some (10, false) }) (v := undef) rfl (by kernel_rfl) (by kernel_rfl) (by kernel_rfl) (fun _ _ _ h => h) (Or.inr ⟨by rfl, rfl⟩) (by assumption) ?_
      (try simp only [Act.put, qA, qB, qC])
      refine wpAnyH_take (i := 20) (oi := { dst := some 35, op := Op.call { callee := Callee.value (Operand.func 127), args := #[Operand.tmp 26, Operand.tmp 28, Operand.tmp 34], argTypes := #[85, 33, 46] }, type := 4, pos := "valid.go:83", after := #[{ on := 11, ground := Ground.data }, { on := 13, ground := Ground.data }, { on := 19, ground := Ground.data }, { on := 10, ground := Ground.chain }, { on := 10, ground := Ground.guard }], guard := some (10, false) }) (v := undef) rfl (by kernel_rfl) (by kernel_rfl) (by kernel_rfl) (fun _ _ _ h => h) (Or.inr ⟨by rfl, rfl⟩) (by assumption) ?_
      (try simp only [Act.put, qA, qB, qC])
      refine wpAnyH_take (i := 21) (oi := { dst := some 36, op := Op.unOp UnOp.not 4 (Operand.tmp 35), type := 4, pos := "valid.go:83", after := #[{ on := 20, ground := Ground.data }, { on := 10, ground := Ground.guard }], guard := some (10, false) }) (v := undef) rfl (by kernel_rfl) (by kernel_rfl) (by kernel_rfl) (fun _ _ _ h => h) (Or.inr ⟨by rfl, rfl⟩) (by assumption) ?_
      (try simp only [Act.put, qA, qB, qC])
      refine wpAnyH_take (i := 22) (oi := { dst := some 37, op := Op.pick (Operand.tmp 25) (Operand.const (Value.bool true)) (Operand.tmp 36), type := 4, pos := "valid.go:83", after := #[{ on := 10, ground := Ground.data }, { on := 21, ground := Ground.data }], guard := none }) (v := ?vq22_45) rfl (by kernel_rfl) (by kernel_rfl) (by kernel_rfl) (fun _ _ _ h => h) (Or.inl ⟨by rfl, ?hq22_45⟩) (by assumption) ?_
      case hq22_45 => intro w hSw; (try dsimp only at hSw); go_simp; try (with_reducible rfl)
      (try simp only [Act.put, qA, qB, qC])
      refine wpAnyH_done (by kernel_rfl) ?_ _
      go_wp2
      go_ret
      exact ⟨by rw [← HF.out]; first | done | rfl, HX1.out.1.drew⟩
    | true =>
      obtain ⟨i, y, rfl, hy⟩ := plB_get (l := evs) (n := tag) (by rw [hne]; exact hB1)
      obtain ⟨be, ofe, rfl, hbe, hce⟩ := g3 (by have := (List.getElem?_eq_some_iff.1 hy).1; omega)
      have hin : i < ne := by rw [← hne]; exact (List.getElem?_eq_some_iff.1 hy).1
      have hfd := g4 y (List.mem_of_getElem? hy)
      have hyn := HSS.out.2.2.1 _ hme y (List.mem_of_getElem? hy)
      obtain ⟨ynm, ⟨dk, dm, dh, dl⟩⟩ := y
      have hq := fun W hW => HHL.out (.mk dk dm dh dl) W hW hfd hyn
      obtain ⟨BH, hBH⟩ : ∃ B, heldB s n n b ⟨loc2, ph2, path2⟩ (.mk dk dm dh dl) = B := ⟨_, rfl⟩
      simp only [hBH, tyV, tyC] at hq
      have HQ := Lib.hid hq
      have HF := Lib.hid (show (BH && BN) = RR from by
        have h := HRR.out
        unfold opensO at h
        dsimp only at h
        rw [HNE.out, HB1P.out, Int.toNat_natCast, hy] at h
        dsimp only at h
        rw [hBH, HBN.out] at h
        exact h)
      have c0 : w.cell? ⟨be, ofe + i * 4 + 1, none⟩ = some (.int .i64 dk) := hce i _ hy 1 _ rfl
      have c1 : w.cell? ⟨be, ofe + i * 4 + 1 + 1, none⟩ = some (.string dm) := hce i _ hy 2 _ rfl
      have c2 : w.cell? ⟨be, ofe + i * 4 + 1 + 2, none⟩ = some (.slice dh.oa dl.length dh.cap) := hce i _ hy 3 _ rfl
      have HGE := Lib.hid (show ∀ W, Below w.heap.size w W → W.cell? ⟨be, ofe + i * 4 + 1, none⟩ = some (.int .i64 dk) ∧ W.cell? ⟨be, ofe + i * 4 + 1 + 1, none⟩ = some (.string dm) ∧ W.cell? ⟨be, ofe + i * 4 + 1 + 2, none⟩ = some (.slice dh.oa dl.length dh.cap) from fun W hW => ⟨(hW.cell (p := ⟨be, ofe + i * 4 + 1, none⟩) hbe).trans c0, (hW.cell (p := ⟨be, ofe + i * 4 + 1 + 1, none⟩) hbe).trans c1, (hW.cell (p := ⟨be, ofe + i * 4 + 1 + 2, none⟩) hbe).trans c2⟩)
      have ti0 : (0 : Int) ≤ i := by omega
      have ti1 : (i : Int) < ne := by omega
      have ti2 : i < ne := hin
      clear g4 hme hne hB1 hce hy hfd hyn hq hBH c0 c1 c2 hbe hin
      obtain ⟨c0, c1, c2⟩ := HGE.out W1 HX1.out.1
      refine wp_region_held_drew (S := (fun w' => w'.cell? ⟨N + 1, 5, none⟩ = some (.int .i64 (i : Int)) ∧ w'.cell? ⟨N + 1, 2, none⟩ = some (.int .i64 loc2) ∧ w'.cell? ⟨N + 1, 2 + 1, none⟩ = some (.slice ph2.oa np2 ph2.cap) ∧ w'.cell? ⟨be, ofe + i * 4 + 1, none⟩ = some (.int .i64 dk) ∧ w'.cell? ⟨be, ofe + i * 4 + 1 + 1, none⟩ = some (.string dm) ∧ w'.cell? ⟨be, ofe + i * 4 + 1 + 2, none⟩ = some (.slice dh.oa dl.length dh.cap))) (by kernel_rfl) ?_ (fun hHeld => ?_)
      · exact ⟨v5, v2, v3, c0, c1, c2⟩
      have HS0 := Lib.hid hHeld
      clear v0 v1 v2 v3 v4 v5 c0 c1 c2
      refine wpAnyH_take (i := 0) (oi := { dst := some 15, op := Op.move (Operand.tmp 8), type := 4, pos := "valid.go:83", after := #[], guard := none }) (v := ?vq0_46) rfl (by kernel_rfl) (by kernel_rfl) (by kernel_rfl) (fun _ _ _ h => h) (Or.inl ⟨by rfl, ?hq0_46⟩) (by assumption) ?_
      case hq0_46 => intro w hSw; (try dsimp only at hSw); go_simp; try (with_reducible rfl)
      (try simp only [Act.put, qA, qB, qC])
      refine wpAnyH_take (i := 1) (oi := { dst := some 16, op := Op.unOp UnOp.not 4 (Operand.tmp 15), type := 4, pos := "valid.go:83", after := #[{ on := 0, ground := Ground.data }], guard := none }) (v := ?vq1_47) rfl (by kernel_rfl) (by kernel_rfl) (by kernel_rfl) (fun _ _ _ h => h) (Or.inl ⟨by rfl, ?hq1_47⟩) (by assumption) ?_
      case hq1_47 => intro w hSw; (try dsimp only at hSw); go_simp; try (with_reducible rfl)
      (try simp only [Act.put, qA, qB, qC])
      refine wpAnyH_take (i := 2) (oi := { dst := some 17, op := Op.move (Operand.tmp 16), type := 4, pos := "valid.go:83", after := #[{ on := 1, ground := Ground.data }], guard := none }) (v := ?vq2_48) rfl (by kernel_rfl) (by kernel_rfl) (by kernel_rfl) (fun _ _ _ h => h) (Or.inl ⟨by rfl, ?hq2_48⟩) (by assumption) ?_
      case hq2_48 => intro w hSw; (try dsimp only at hSw); go_simp; try (with_reducible rfl)
      (try simp only [Act.put, qA, qB, qC])
      refine wpAnyH_take (i := 3) (oi := { dst := some 18, op := Op.fieldAddr 37 (Operand.tmp 5) 4, type := 0, pos := "valid.go:83", after := #[{ on := 2, ground := Ground.guard }], guard := some (2, false) }) (v := ?vq3_49) rfl (by kernel_rfl) (by kernel_rfl) (by kernel_rfl) (fun _ _ _ h => h) (Or.inl ⟨by rfl, ?hq3_49⟩) (by assumption) ?_
      case hq3_49 => intro w hSw; (try dsimp only at hSw); go_simp; try (with_reducible rfl)
      (try simp only [Act.put, qA, qB, qC])
      refine wpAnyH_take (i := 4) (oi := { dst := some 19, op := Op.load 3 (Operand.tmp 18), type := 3, pos := "valid.go:83", after := #[{ on := 3, ground := Ground.data }, { on := 2, ground := Ground.guard }], guard := some (2, false) }) (v := ?vq4_50) rfl (by kernel_rfl) (by kernel_rfl) (by kernel_rfl) (fun _ _ _ h => h) (Or.inl ⟨by rfl, ?hq4_50⟩) (by assumption) ?_
      case hq4_50 => intro w hSw; (try dsimp only at hSw); go_simp; try (with_reducible rfl)
      (try simp only [Act.put, qA, qB, qC])
      refine wpAnyH_take (i := 5) (oi := { dst := some 20, op := Op.move (Operand.tmp 7), type := 72, pos := "valid.go:83", after := #[{ on := 2, ground := Ground.guard }], guard := some (2, false) }) (v := ?vq5_51) rfl (by kernel_rfl) (by kernel_rfl) (by kernel_rfl) (fun _ _ _ h => h) (Or.inl ⟨by rfl, ?hq5_51⟩) (by assumption) ?_
      case hq5_51 => intro w hSw; (try dsimp only at hSw); go_simp; try (with_reducible rfl)
      (try simp only [Act.put, qA, qB, qC])
      refine wpAnyH_take (i := 6) (oi := { dst := some 21, op := Op.call { callee := Callee.builtin Builtin.len, args := #[Operand.tmp 20], argTypes := #[72] }, type := 3, pos := "valid.go:83", after := #[{ on := 5, ground := Ground.data }, { on := 2, ground := Ground.guard }], guard := some (2, false) }) (v := ?vq6_52) rfl (by kernel_rfl) (by kernel_rfl) (by kernel_rfl) (fun _ _ _ h => h) (Or.inl ⟨by rfl, ?hq6_52⟩) (by assumption) ?_
      case hq6_52 => intro w hSw; (try dsimp only at hSw); go_simp; try (with_reducible rfl)
      (try simp only [Act.put, qA, qB, qC])
      refine wpAnyH_ready (rs := [7]) (by kernel_rfl) (by simp) ?_
      refine AllReadyH.cons (o := { dst := some 22, op := Op.call { callee := Callee.value (Operand.func 48), args := #[Operand.tmp 19, Operand.tmp 21], argTypes := #[3, 3] }, type := 4, pos := "valid.go:83", after := #[{ on := 4, ground := Ground.data }, { on := 6, ground := Ground.data }, { on := 2, ground := Ground.chain }, { on := 2, ground := Ground.guard }], guard := some (2, false) }) rfl (fun K hK => ?_) AllReadyH.nil
      go_simp
      refine (HPL.out _).mono ?_
      rintro e W2 ⟨rfl, hw2⟩
      rw [hw2]
      clear hw2
      refine hK.out _ _ ?_ (fun hHeld => ?_)
      · exact HS0.out
      clear hK K
      (try simp only [Act.put, qA, qB, qC])
      refine wpAnyH_take (i := 8) (oi := { dst := some 23, op := Op.unOp UnOp.not 4 (Operand.tmp 22), type := 4, pos := "valid.go:83", after := #[{ on := 7, ground := Ground.data }, { on := 2, ground := Ground.guard }], guard := some (2, false) }) (v := ?vq8_53) rfl (by kernel_rfl) (by kernel_rfl) (by kernel_rfl) (fun _ _ _ h => h) (Or.inl ⟨by rfl, ?hq8_53⟩) (by assumption) ?_
      case hq8_53 => intro w hSw; (try dsimp only at hSw); go_simp; try (with_reducible rfl)
      (try simp only [Act.put, qA, qB, qC])
      refine wpAnyH_take (i := 9) (oi := { dst := some 24, op := Op.pick (Operand.tmp 17) (Operand.const (Value.bool true)) (Operand.tmp 23), type := 4, pos := "valid.go:83", after := #[{ on := 2, ground := Ground.data }, { on := 8, ground := Ground.data }], guard := none }) (v := ?vq9_54) rfl (by kernel_rfl) (by kernel_rfl) (by kernel_rfl) (fun _ _ _ h => h) (Or.inl ⟨by rfl, ?hq9_54⟩) (by assumption) ?_
      case hq9_54 => intro w hSw; (try dsimp only at hSw); go_simp; try (with_reducible rfl)
      (try simp only [Act.put, qA, qB, qC])
      refine wpAnyH_take (i := 10) (oi := { dst := some 25, op := Op.move (Operand.tmp 24), type := 4, pos := "valid.go:83", after := #[{ on := 9, ground := Ground.data }, { on := 7, ground := Ground.chain }], guard := none }) (v := ?vq10_55) rfl (by kernel_rfl) (by kernel_rfl) (by kernel_rfl) (fun _ _ _ h => h) (Or.inl ⟨by rfl, ?hq10_55⟩) (by assumption) ?_
      case hq10_55 => intro w hSw; (try dsimp only at hSw); go_simp; try (with_reducible rfl)
      (try simp only [Act.put, qA, qB, qC])
      refine wpAnyH_take (i := 11) (oi := { dst := some 26, op := Op.move (Operand.tmp 0), type := 85, pos := "valid.go:83", after := #[{ on := 10, ground := Ground.guard }], guard := some (10, false) }) (v := ?vq11_56) rfl (by kernel_rfl) (by kernel_rfl) (by kernel_rfl) (fun _ _ _ h => h) (Or.inl ⟨by rfl, ?hq11_56⟩) (by assumption) ?_
      case hq11_56 => intro w hSw; (try dsimp only at hSw); go_simp; try (with_reducible rfl)
      (try simp only [Act.put, qA, qB, qC])
      refine wpAnyH_take (i := 12) (oi := { dst := some 27, op := Op.fieldAddr 37 (Operand.tmp 5) 2, type := 0, pos := "valid.go:83", after := #[{ on := 10, ground := Ground.guard }], guard := some (10, false) }) (v := ?vq12_57) rfl (by kernel_rfl) (by kernel_rfl) (by kernel_rfl) (fun _ _ _ h => h) (Or.inl ⟨by rfl, ?hq12_57⟩) (by assumption) ?_
      case hq12_57 => intro w hSw; (try dsimp only at hSw); go_simp; try (with_reducible rfl)
      (try simp only [Act.put, qA, qB, qC])
      refine wpAnyH_take (i := 13) (oi := { dst := some 28, op := Op.load 33 (Operand.tmp 27), type := 33, pos := "valid.go:83", after := #[{ on := 12, ground := Ground.data }, { on := 10, ground := Ground.guard }], guard := some (10, false) }) (v := ?vq13_58) rfl (by kernel_rfl) (by kernel_rfl) (by kernel_rfl) (fun _ _ _ h => h) (Or.inl ⟨by rfl, ?hq13_58⟩) (by assumption) ?_
      case hq13_58 => intro w hSw; (try dsimp only at hSw); go_simp; try (with_reducible rfl)
      (try simp only [Act.put, qA, qB, qC])
      refine wpAnyH_take (i := 14) (oi := { dst := some 29, op := Op.move (Operand.tmp 7), type := 72, pos := "valid.go:83", after := #[{ on := 10, ground := Ground.guard }], guard := some (10, false) }) (v := ?vq14_59) rfl (by kernel_rfl) (by kernel_rfl) (by kernel_rfl) (fun _ _ _ h => h) (Or.inl ⟨by rfl, ?hq14_59⟩) (by assumption) ?_
      case hq14_59 => intro w hSw; (try dsimp only at hSw); go_simp; try (with_reducible rfl)
      (try simp only [Act.put, qA, qB, qC])
      refine wpAnyH_take (i := 15) (oi := { dst := some 30, op := Op.fieldAddr 37 (Operand.tmp 5) 4, type := 0, pos := "valid.go:83", after := #[{ on := 10, ground := Ground.guard }], guard := some (10, false) }) (v := ?vq15_60) rfl (by kernel_rfl) (by kernel_rfl) (by kernel_rfl) (fun _ _ _ h => h) (Or.inl ⟨by rfl, ?hq15_60⟩) (by assumption) ?_
      case hq15_60 => intro w hSw; (try dsimp only at hSw); go_simp; try (with_reducible rfl)
      (try simp only [Act.put, qA, qB, qC])
      refine wpAnyH_take (i := 16) (oi := { dst := some 31, op := Op.load 3 (Operand.tmp 30), type := 3, pos := "valid.go:83", after := #[{ on := 15, ground := Ground.data }, { on := 10, ground := Ground.guard }], guard := some (10, false) }) (v := ?vq16_61) rfl (by kernel_rfl) (by kernel_rfl) (by kernel_rfl) (fun _ _ _ h => h) (Or.inl ⟨by rfl, ?hq16_61⟩) (by assumption) ?_
      case hq16_61 => intro w hSw; (try dsimp only at hSw); go_simp; try (with_reducible rfl)
      (try simp only [Act.put, qA, qB, qC])
      refine wpAnyH_take (i := 17) (oi := { dst := some 32, op := Op.indexAddr 72 (Operand.tmp 29) (Operand.tmp 31), type := 0, pos := "valid.go:83", after := #[{ on := 14, ground := Ground.data }, { on := 16, ground := Ground.data }, { on := 10, ground := Ground.guard }], guard := some (10, false) }) (v := ?vq17_62) rfl (by kernel_rfl) (by kernel_rfl) (by kernel_rfl) (fun _ _ _ h => h) (Or.inl ⟨by rfl, ?hq17_62⟩) (by assumption) ?_
      case hq17_62 => intro w hSw; (try dsimp only at hSw); go_simp; try (with_reducible rfl)
      (try simp only [Act.put, qA, qB, qC])
      refine wpAnyH_take (i := 18) (oi := { dst := some 33, op := Op.fieldAddr 76 (Operand.tmp 32) 1, type := 0, pos := "valid.go:83", after := #[{ on := 17, ground := Ground.data }, { on := 10, ground := Ground.guard }], guard := some (10, false) }) (v := ?vq18_63) rfl (by kernel_rfl) (by kernel_rfl) (by kernel_rfl) (fun _ _ _ h => h) (Or.inl ⟨by rfl, ?hq18_63⟩) (by assumption) ?_
      case hq18_63 => intro w hSw; (try dsimp only at hSw); go_simp; try (with_reducible rfl)
      (try simp only [Act.put, qA, qB, qC])
      refine wpAnyH_take (i := 19) (oi := { dst := some 34, op := Op.load 46 (Operand.tmp 33), type := 46, pos := "valid.go:83", after := #[{ on := 18, ground := Ground.data }, { on := 10, ground := Ground.guard }], guard := some (10, false) }) (v := ?vq19_64) rfl (by kernel_rfl) (by kernel_rfl) (by kernel_rfl) (fun _ _ _ h => h) (Or.inl ⟨by rfl, ?hq19_64⟩) (by assumption) ?_
      case hq19_64 => intro w hSw; (try dsimp only at hSw); go_simp; try (with_reducible rfl)
      (try simp only [Act.put, qA, qB, qC])
      refine wpAnyH_ready (rs := [20]) (by kernel_rfl) (by simp) ?_
      refine AllReadyH.cons (o := { dst := some 35, op := Op.call { callee := Callee.value (Operand.func 127), args := #[Operand.tmp 26, Operand.tmp 28, Operand.tmp 34], argTypes := #[85, 33, 46] }, type := 4, pos := "valid.go:83", after := #[{ on := 11, ground := Ground.data }, { on := 13, ground := Ground.data }, { on := 19, ground := Ground.data }, { on := 10, ground := Ground.chain }, { on := 10, ground := Ground.guard }], guard := some (10, false) }) rfl (fun K hK => ?_) AllReadyH.nil
      go_simp
      refine (HQ.out _ (show Below w.heap.size w W1.drew from HX1.out.1.drew)).mono ?_
      rintro e W3 ⟨rfl, hb3⟩
      have HB3 := Lib.hid (show Below W1.heap.size W1 W3 from (show Below W1.heap.size W1 W1.drew from ⟨rfl, rfl, rfl, Nat.le_refl _, fun _ _ => rfl⟩).trans hb3)
      clear hb3
      have HX3 := Lib.hid (And.intro (HX1.out.1.trans (HB3.out.mono HX1.out.1.size)) ((HB3.out.block (N + 1) (blk_lt HX1.out.2)).trans HX1.out.2))
      refine hK.out _ _ ?_ (fun hHeld => ?_)
      · obtain ⟨c0, c1, c2⟩ := HGE.out W3 HX3.out.1
        have hx1 := HX3.out.2
        refine ⟨?_, ?_, ?_, c0, c1, c2⟩ <;> simp [World.cell?, hx1]
      clear hK K
      (try simp only [Act.put, qA, qB, qC])
      refine wpAnyH_take (i := 21) (oi := { dst := some 36, op := Op.unOp UnOp.not 4 (Operand.tmp 35), type := 4, pos := "valid.go:83", after := #[{ on := 20, ground := Ground.data }, { on := 10, ground := Ground.guard }], guard := some (10, false) }) (v := ?vq21_65) rfl (by kernel_rfl) (by kernel_rfl) (by kernel_rfl) (fun _ _ _ h => h) (Or.inl ⟨by rfl, ?hq21_65⟩) (by assumption) ?_
      case hq21_65 => intro w hSw; (try dsimp only at hSw); go_simp; try (with_reducible rfl)
      (try simp only [Act.put, qA, qB, qC])
      refine wpAnyH_take (i := 22) (oi := { dst := some 37, op := Op.pick (Operand.tmp 25) (Operand.const (Value.bool true)) (Operand.tmp 36), type := 4, pos := "valid.go:83", after := #[{ on := 10, ground := Ground.data }, { on := 21, ground := Ground.data }], guard := none }) (v := ?vq22_66) rfl (by kernel_rfl) (by kernel_rfl) (by kernel_rfl) (fun _ _ _ h => h) (Or.inl ⟨by rfl, ?hq22_66⟩) (by assumption) ?_
      case hq22_66 => intro w hSw; (try dsimp only at hSw); go_simp; try (with_reducible rfl)
      (try simp only [Act.put, qA, qB, qC])
      refine wpAnyH_done (by kernel_rfl) ?_ _
      clear HS0
      cases BH with
      | false =>
        go_wp2
        go_ret
        exact ⟨by rw [← HF.out]; rfl, HX3.out.1⟩
      | true =>
        go_upto_region 5 with
          (first
            | (go_loud (refine wpList_store_box rfl 3 (.tmp 39) (.const (.int .i64 0)) rfl (N + 1) 5 rfl (.int .i64 0) rfl [.int .i64 0] rfl [.int .i64 k, .slice hu.oa nu hu.cap, .int .i64 loc2, .slice ph2.oa np2 ph2.cap, .int .i64 which, .int .i64 (i : Int)] 37 HX3.out.2 (by simp) info_in ?cb0 w.heap.size HN1.out W3 (Below.refl _ _) ?_; rotate_left; intro W4 hb4 hbx4 hoth4; have HX4 := Lib.hid (And.intro hb4 (show W4.heap[N + 1]? = some (.cells #[.int .i64 k, .slice hu.oa nu hu.cap, .int .i64 loc2, .slice ph2.oa np2 ph2.cap, .int .i64 which, .int .i64 0] 37) from hbx4)); clear hb4 hbx4 hoth4))
            | (go_loud (refine wpList_store_box rfl 33 (.tmp 40) (.tmp 38) rfl (N + 1) 2 rfl (.agg #[.int .i64 0, .slice none 0 0]) rfl [.int .i64 0, .slice none 0 0] rfl [.int .i64 k, .slice hu.oa nu hu.cap, .int .i64 loc2, .slice ph2.oa np2 ph2.cap, .int .i64 which, .int .i64 0] 37 HX4.out.2 (by simp) info_sp ?cb1 w.heap.size HN1.out W4 (Below.refl _ _) ?_; rotate_left; intro W5 hb5 hbx5 hoth5)))
        try case cb0 => first | exact rfl | (intro v hv; simp at hv; subst hv; rfl)
        try case cb1 => first | exact ⟨rfl, rfl⟩ | (intro v hv; simp at hv; rcases hv with rfl | rfl <;> rfl)
        have hx5 : W5.heap[N + 1]? = some (.cells #[.int .i64 k, .slice hu.oa nu hu.cap, .int .i64 0, .slice none 0 0, .int .i64 which, .int .i64 0] 37) := hbx5
        obtain ⟨v0, v1, v2, v3, v4, v5⟩ : W5.cell? ⟨N + 1, 0, none⟩ = some (.int .i64 k) ∧ W5.cell? ⟨N + 1, 1, none⟩ = some (.slice hu.oa nu hu.cap) ∧ W5.cell? ⟨N + 1, 2, none⟩ = some (.int .i64 0) ∧ W5.cell? ⟨N + 1, 3, none⟩ = some (.slice none 0 0) ∧ W5.cell? ⟨N + 1, 4, none⟩ = some (.int .i64 which) ∧ W5.cell? ⟨N + 1, 5, none⟩ = some (.int .i64 0) := by
          refine ⟨?_, ?_, ?_, ?_, ?_, ?_⟩ <;> simp [World.cell?, hx5]
        have H5 := Lib.hid (HX3.out.1.trans (HX4.out.1.trans hb5))
        clear hb5 hbx5 hoth5 hx5
        go_wp2_with (go_at_call 99; refine (HNV.out W5).mono ?_; rintro e W6 ⟨rfl, hb6⟩; have HB6 := Lib.hid hb6; clear hb6)
        go_ret
        exact ⟨by rw [← HF.out]; rfl, H5.out.trans (HB6.out.mono H5.out.size)⟩

end Go.Proofs.YtghkbihgdabamaaGreatDoor
