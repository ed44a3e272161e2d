/-
  mir's isNamed: is a spot a local that has a name. Conditions: the view, its body and the spot lie in the heap.
-/
import Derived.Test.YtghkbihgdabamaaGreatDoorKQIsOf
namespace Go.Proofs.YtghkbihgdabamaaGreatDoor
open Go.RowKit

def namedB (b : Bo) (x : Sp) : Bool := plB x.loc ((b.locals.length : Int) - 1) && decide (x.path.length = 0)
set_option maxRecDepth 100000 in
set_option maxHeartbeats 40000000 in
theorem isNamed_any (n : Nat) (s : So5) (b : Bo) (v : Nat) (x : Sp) (w : World) (hv : ViewAt w v s b) (hb : BoH n w b) (hx : SpH w x) :
    Calls Tryz.prog 98 #[.pointer (some ⟨v, 0, none⟩), spV x] w fun e w' => e = .returned (.bool (namedB b x)) ∧ Below w.heap.size w w' := by
  obtain ⟨loc, ph, path⟩ := x
  obtain ⟨W0, hW⟩ : ∃ W, W = w.alloc (.cells #[.int .i64 loc, .slice ph.oa path.length ph.cap] 33) := ⟨_, rfl⟩
  have hb0 : Below w.heap.size w W0 := by rw [hW]; exact alloc_below _ _
  have hx0 : W0.heap[w.heap.size]? = some (.cells #[.int .i64 loc, .slice ph.oa path.length ph.cap] 33) := by rw [hW]; exact heap_alloc_new _ _
  obtain ⟨hxl, hxr⟩ := hx
  obtain ⟨np, hnp⟩ : ∃ k, path.length = k := ⟨_, rfl⟩
  obtain ⟨nl, hnl⟩ : ∃ k, b.locals.length = k := ⟨_, rfl⟩
  obtain ⟨o4, c4, hh4⟩ : ∃ o c, b.hl = ⟨o, c⟩ := ⟨_, _, rfl⟩
  unfold ViewAt at hv
  rw [hnl, hh4] at hv
  simp only [spV, spC, namedB, hnl, hnp]
  rw [hnp] at hx0 hW
  have HVW := Lib.hid (show ∀ W, Below w.heap.size w W → W.heap[v]? = _ from fun W hW => (hW.block v (blk_lt hv)).trans hv)
  have hpl := fun W => isPlace_any loc ((nl : Int) - 1) W
  obtain ⟨B, hB⟩ : ∃ B, plB loc ((nl : Int) - 1) = B := ⟨_, rfl⟩
  simp only [hB] at hpl ⊢
  have HPL := Lib.hid hpl
  have hll : nl ≤ c4 ∧ c4 ≤ 9223372036854775807 := by
    have h1 := hb.2.1.1
    have h2 := hb.2.1.2.1
    rw [hnl, hh4] at h1
    rw [hh4] at h2
    unfold maxLen at h2
    exact ⟨h1, by dsimp only at h2; omega⟩
  have hlp : np ≤ 9223372036854775807 := by
    have h1 : path.length ≤ ph.cap := hxr.1
    have h2 : ph.cap ≤ maxLen := hxr.2.1
    unfold maxLen at h2
    omega
  have HLL := Lib.hid (And.intro hll hlp)
  obtain ⟨N, hN⟩ : ∃ N, N = w.heap.size := ⟨_, rfl⟩
  rw [← hN] at hx0
  have HX := Lib.hid hx0
  have HB0 := Lib.hid hb0
  clear hv hb hxl hxr hx0 hb0 hnp hnl hh4 hpl hll hlp hB
  go_enter Tryz.func98, Tryz.ntmps98
  go_upto_region 1 with fail
  rw [← hW]
  clear hW
  try simp only [← hN]
  clear hN
  obtain ⟨y0, y1, yf, yl⟩ := cells2p HX.out
  obtain ⟨v0, v1, v2, v3, v4, v5, v6, vl⟩ := cells7 (HVW.out W0 HB0.out)
  go_wp2_with fail
  cases B with
  | false =>
    refine wp_region_held_drew (S := (fun w' => w'.cell? ⟨N, 0, none⟩ = some (.int .i64 loc) ∧ w'.cell? ⟨N, 1, none⟩ = some (.slice ph.oa np ph.cap) ∧ w'.cell? ⟨v, 5, none⟩ = some (.slice o4 nl c4))) (by kernel_rfl) ?_ (fun hHeld => ?_)
    · exact ⟨y0, y1, v5⟩
    refine wpAnyH_take (i := 0) (oi := { dst := some 5, op := Op.fieldAddr 33 (Operand.tmp 3) 0, type := 0, pos := "valid.go:52", after := #[], guard := none }) (v := ?vq0_1) rfl (by kernel_rfl) (by kernel_rfl) (by kernel_rfl) (fun _ _ _ h => h) (Or.inl ⟨by rfl, ?hq0_1⟩) (by assumption) ?_
    case hq0_1 => intro w hSw; (try dsimp only at hSw); go_simp; try (with_reducible rfl)
    (try simp only [Act.put, qA, qB, qC])
    refine wpAnyH_take (i := 1) (oi := { dst := some 6, op := Op.load 3 (Operand.tmp 5), type := 3, pos := "valid.go:52", after := #[{ on := 0, ground := Ground.data }], guard := none }) (v := ?vq1_2) rfl (by kernel_rfl) (by kernel_rfl) (by kernel_rfl) (fun _ _ _ h => h) (Or.inl ⟨by rfl, ?hq1_2⟩) (by assumption) ?_
    case hq1_2 => intro w hSw; (try dsimp only at hSw); go_simp; try (with_reducible rfl)
    (try simp only [Act.put, qA, qB, qC])
    refine wpAnyH_take (i := 2) (oi := { dst := some 7, op := Op.move (Operand.tmp 0), type := 85, pos := "valid.go:52", after := #[], guard := none }) (v := ?vq2_3) rfl (by kernel_rfl) (by kernel_rfl) (by kernel_rfl) (fun _ _ _ h => h) (Or.inl ⟨by rfl, ?hq2_3⟩) (by assumption) ?_
    case hq2_3 => intro w hSw; (try dsimp only at hSw); go_simp; try (with_reducible rfl)
    (try simp only [Act.put, qA, qB, qC])
    refine wpAnyH_take (i := 3) (oi := { dst := some 8, op := Op.nilCheck (Operand.tmp 7), type := 0, pos := "valid.go:52", after := #[{ on := 2, ground := Ground.data }], guard := none }) (v := ?vq3_4) rfl (by kernel_rfl) (by kernel_rfl) (by kernel_rfl) (fun _ _ _ h => h) (Or.inl ⟨by rfl, ?hq3_4⟩) (by assumption) ?_
    case hq3_4 => intro w hSw; (try dsimp only at hSw); go_simp; try (with_reducible rfl)
    (try simp only [Act.put, qA, qB, qC])
    refine wpAnyH_take (i := 4) (oi := { dst := some 9, op := Op.fieldAddr 87 (Operand.tmp 8) 1, type := 0, pos := "valid.go:52", after := #[{ on := 3, ground := Ground.data }], guard := none }) (v := ?vq4_5) rfl (by kernel_rfl) (by kernel_rfl) (by kernel_rfl) (fun _ _ _ h => h) (Or.inl ⟨by rfl, ?hq4_5⟩) (by assumption) ?_
    case hq4_5 => intro w hSw; (try dsimp only at hSw); go_simp; try (with_reducible rfl)
    (try simp only [Act.put, qA, qB, qC])
    refine wpAnyH_take (i := 5) (oi := { dst := some 10, op := Op.fieldAddr 30 (Operand.tmp 9) 2, type := 0, pos := "valid.go:52", after := #[{ on := 4, ground := Ground.data }], guard := none }) (v := ?vq5_6) rfl (by kernel_rfl) (by kernel_rfl) (by kernel_rfl) (fun _ _ _ h => h) (Or.inl ⟨by rfl, ?hq5_6⟩) (by assumption) ?_
    case hq5_6 => intro w hSw; (try dsimp only at hSw); go_simp; try (with_reducible rfl)
    (try simp only [Act.put, qA, qB, qC])
    refine wpAnyH_take (i := 6) (oi := { dst := some 11, op := Op.load 27 (Operand.tmp 10), type := 27, pos := "valid.go:52", after := #[{ on := 5, ground := Ground.data }], guard := none }) (v := ?vq6_7) rfl (by kernel_rfl) (by kernel_rfl) (by kernel_rfl) (fun _ _ _ h => h) (Or.inl ⟨by rfl, ?hq6_7⟩) (by assumption) ?_
    case hq6_7 => intro w hSw; (try dsimp only at hSw); go_simp; try (with_reducible rfl)
    (try simp only [Act.put, qA, qB, qC])
    refine wpAnyH_take (i := 7) (oi := { dst := some 12, op := Op.call { callee := Callee.builtin Builtin.len, args := #[Operand.tmp 11], argTypes := #[27] }, type := 3, pos := "valid.go:52", after := #[{ on := 6, ground := Ground.data }], guard := none }) (v := ?vq7_8) rfl (by kernel_rfl) (by kernel_rfl) (by kernel_rfl) (fun _ _ _ h => h) (Or.inl ⟨by rfl, ?hq7_8⟩) (by assumption) ?_
    case hq7_8 => intro w hSw; (try dsimp only at hSw); go_simp; try (with_reducible rfl)
    (try simp only [Act.put, qA, qB, qC])
    refine wpAnyH_take (i := 8) (oi := { dst := some 13, op := Op.binOp BinOp.sub 3 (Operand.tmp 12) (Operand.const (Value.int IntKind.i64 1)) 3, type := 3, pos := "valid.go:52", after := #[{ on := 7, ground := Ground.data }], guard := none }) (v := .int .i64 ((nl : Int) - 1)) rfl (by kernel_rfl) (by kernel_rfl) (by kernel_rfl) (fun _ _ _ h => h) (Or.inl ⟨by rfl, ?hq8_9⟩) (by assumption) ?_
    case hq8_9 => intro w hSw; (try dsimp only at hSw); go_simp; first | done | (with_reducible rfl) | (have h0 := HLL.out; rw [IntKind.wrap_i64]; omega)
    (try simp only [Act.put, qA, qB, qC])
    refine wpAnyH_ready (rs := [9]) (by kernel_rfl) (by simp) ?_
    refine AllReadyH.cons (o := { dst := some 14, op := Op.call { callee := Callee.value (Operand.func 48), args := #[Operand.tmp 6, Operand.tmp 13], argTypes := #[3, 3] }, type := 4, pos := "valid.go:52", after := #[{ on := 1, ground := Ground.data }, { on := 8, ground := Ground.data }], guard := none }) rfl (fun K hK => ?_) AllReadyH.nil
    go_simp
    refine (HPL.out W0.drew).mono ?_
    rintro e W1 ⟨rfl, h9⟩
    subst h9
    refine hK.out _ _ ?_ (fun hHeld => ?_)
    · exact ⟨y0, y1, v5⟩
    clear hK K
    (try simp only [Act.put, qA, qB, qC])
    refine wpAnyH_take (i := 10) (oi := { dst := some 15, op := Op.move (Operand.tmp 14), type := 4, pos := "valid.go:52", after := #[{ on := 9, ground := Ground.data }, { on := 9, ground := Ground.chain }], guard := none }) (v := ?vq10_10) rfl (by kernel_rfl) (by kernel_rfl) (by kernel_rfl) (fun _ _ _ h => h) (Or.inl ⟨by rfl, ?hq10_10⟩) (by assumption) ?_
    case hq10_10 => intro w hSw; (try dsimp only at hSw); go_simp; try (with_reducible rfl)
    (try simp only [Act.put, qA, qB, qC])
    refine wpAnyH_take (i := 11) (oi := { dst := some 16, op := Op.fieldAddr 33 (Operand.tmp 3) 1, type := 0, pos := "valid.go:52", after := #[{ on := 10, ground := Ground.guard }], guard := some (10, true) }) (v := undef) rfl (by kernel_rfl) (by kernel_rfl) (by kernel_rfl) (fun _ _ _ h => h) (Or.inr ⟨by rfl, rfl⟩) (by assumption) ?_
    (try simp only [Act.put, qA, qB, qC])
    refine wpAnyH_take (i := 12) (oi := { dst := some 17, op := Op.load 31 (Operand.tmp 16), type := 31, pos := "valid.go:52", after := #[{ on := 11, ground := Ground.data }, { on := 10, ground := Ground.guard }], guard := some (10, true) }) (v := undef) rfl (by kernel_rfl) (by kernel_rfl) (by kernel_rfl) (fun _ _ _ h => h) (Or.inr ⟨by rfl, rfl⟩) (by assumption) ?_
    (try simp only [Act.put, qA, qB, qC])
    refine wpAnyH_take (i := 13) (oi := { dst := some 18, op := Op.call { callee := Callee.builtin Builtin.len, args := #[Operand.tmp 17], argTypes := #[31] }, type := 3, pos := "valid.go:52", after := #[{ on := 12, ground := Ground.data }, { on := 10, ground := Ground.guard }], guard := some (10, true) }) (v := undef) rfl (by kernel_rfl) (by kernel_rfl) (by kernel_rfl) (fun _ _ _ h => h) (Or.inr ⟨by rfl, rfl⟩) (by assumption) ?_
    (try simp only [Act.put, qA, qB, qC])
    refine wpAnyH_take (i := 14) (oi := { dst := some 19, op := Op.binOp BinOp.eql 3 (Operand.tmp 18) (Operand.const (Value.int IntKind.i64 0)) 3, type := 4, pos := "valid.go:52", after := #[{ on := 13, ground := Ground.data }, { on := 10, ground := Ground.guard }], guard := some (10, true) }) (v := undef) rfl (by kernel_rfl) (by kernel_rfl) (by kernel_rfl) (fun _ _ _ h => h) (Or.inr ⟨by rfl, rfl⟩) (by assumption) ?_
    (try simp only [Act.put, qA, qB, qC])
    refine wpAnyH_take (i := 15) (oi := { dst := some 20, op := Op.pick (Operand.tmp 15) (Operand.tmp 19) (Operand.const (Value.bool false)), type := 4, pos := "valid.go:52", after := #[{ on := 10, ground := Ground.data }, { on := 14, ground := Ground.data }], guard := none }) (v := ?vq15_11) rfl (by kernel_rfl) (by kernel_rfl) (by kernel_rfl) (fun _ _ _ h => h) (Or.inl ⟨by rfl, ?hq15_11⟩) (by assumption) ?_
    case hq15_11 => intro w hSw; (try dsimp only at hSw); go_simp; try (with_reducible rfl)
    (try simp only [Act.put, qA, qB, qC])
    refine wpAnyH_take (i := 16) (oi := { dst := some 4, op := Op.assign (Operand.tmp 20), type := 4, pos := "valid.go:52", after := #[{ on := 15, ground := Ground.data }, { on := 10, ground := Ground.chain }, { on := 0, ground := Ground.phase }, { on := 1, ground := Ground.phase }, { on := 2, ground := Ground.phase }, { on := 3, ground := Ground.phase }, { on := 4, ground := Ground.phase }, { on := 5, ground := Ground.phase }, { on := 6, ground := Ground.phase }, { on := 7, ground := Ground.phase }, { on := 8, ground := Ground.phase }, { on := 9, ground := Ground.phase }, { on := 10, ground := Ground.phase }, { on := 11, ground := Ground.phase }, { on := 12, ground := Ground.phase }, { on := 13, ground := Ground.phase }, { on := 14, ground := Ground.phase }, { on := 15, ground := Ground.phase }], guard := none }) (v := ?vq16_12) rfl (by kernel_rfl) (by kernel_rfl) (by kernel_rfl) (fun _ _ _ h => h) (Or.inl ⟨by rfl, ?hq16_12⟩) (by assumption) ?_
    case hq16_12 => intro w hSw; (try dsimp only at hSw); go_simp; try (with_reducible rfl)
    (try simp only [Act.put, qA, qB, qC])
    refine wpAnyH_done (by kernel_rfl) ?_ _
    clear y0 y1 yf yl v0 v1 v2 v3 v4 v5 v6 vl
    go_wp2
    go_ret
    exact ⟨by rfl, HB0.out.trans ⟨rfl, rfl, rfl, Nat.le_refl _, fun _ _ => rfl⟩⟩
  | true =>
    by_cases hl0 : np = 0
    · have HL0 := Lib.hid hl0
      clear hl0
      refine wp_region_held_drew (S := (fun w' => w'.cell? ⟨N, 0, none⟩ = some (.int .i64 loc) ∧ w'.cell? ⟨N, 1, none⟩ = some (.slice ph.oa np ph.cap) ∧ w'.cell? ⟨v, 5, none⟩ = some (.slice o4 nl c4))) (by kernel_rfl) ?_ (fun hHeld => ?_)
      · exact ⟨y0, y1, v5⟩
      refine wpAnyH_take (i := 0) (oi := { dst := some 5, op := Op.fieldAddr 33 (Operand.tmp 3) 0, type := 0, pos := "valid.go:52", after := #[], guard := none }) (v := ?vq0_13) rfl (by kernel_rfl) (by kernel_rfl) (by kernel_rfl) (fun _ _ _ h => h) (Or.inl ⟨by rfl, ?hq0_13⟩) (by assumption) ?_
      case hq0_13 => intro w hSw; (try dsimp only at hSw); go_simp; try (with_reducible rfl)
      (try simp only [Act.put, qA, qB, qC])
      refine wpAnyH_take (i := 1) (oi := { dst := some 6, op := Op.load 3 (Operand.tmp 5), type := 3, pos := "valid.go:52", after := #[{ on := 0, ground := Ground.data }], guard := none }) (v := ?vq1_14) rfl (by kernel_rfl) (by kernel_rfl) (by kernel_rfl) (fun _ _ _ h => h) (Or.inl ⟨by rfl, ?hq1_14⟩) (by assumption) ?_
      case hq1_14 => intro w hSw; (try dsimp only at hSw); go_simp; try (with_reducible rfl)
      (try simp only [Act.put, qA, qB, qC])
      refine wpAnyH_take (i := 2) (oi := { dst := some 7, op := Op.move (Operand.tmp 0), type := 85, pos := "valid.go:52", after := #[], guard := none }) (v := ?vq2_15) rfl (by kernel_rfl) (by kernel_rfl) (by kernel_rfl) (fun _ _ _ h => h) (Or.inl ⟨by rfl, ?hq2_15⟩) (by assumption) ?_
      case hq2_15 => intro w hSw; (try dsimp only at hSw); go_simp; try (with_reducible rfl)
      (try simp only [Act.put, qA, qB, qC])
      refine wpAnyH_take (i := 3) (oi := { dst := some 8, op := Op.nilCheck (Operand.tmp 7), type := 0, pos := "valid.go:52", after := #[{ on := 2, ground := Ground.data }], guard := none }) (v := ?vq3_16) rfl (by kernel_rfl) (by kernel_rfl) (by kernel_rfl) (fun _ _ _ h => h) (Or.inl ⟨by rfl, ?hq3_16⟩) (by assumption) ?_
      case hq3_16 => intro w hSw; (try dsimp only at hSw); go_simp; try (with_reducible rfl)
      (try simp only [Act.put, qA, qB, qC])
      refine wpAnyH_take (i := 4) (oi := { dst := some 9, op := Op.fieldAddr 87 (Operand.tmp 8) 1, type := 0, pos := "valid.go:52", after := #[{ on := 3, ground := Ground.data }], guard := none }) (v := ?vq4_17) rfl (by kernel_rfl) (by kernel_rfl) (by kernel_rfl) (fun _ _ _ h => h) (Or.inl ⟨by rfl, ?hq4_17⟩) (by assumption) ?_
      case hq4_17 => intro w hSw; (try dsimp only at hSw); go_simp; try (with_reducible rfl)
      (try simp only [Act.put, qA, qB, qC])
      refine wpAnyH_take (i := 5) (oi := { dst := some 10, op := Op.fieldAddr 30 (Operand.tmp 9) 2, type := 0, pos := "valid.go:52", after := #[{ on := 4, ground := Ground.data }], guard := none }) (v := ?vq5_18) rfl (by kernel_rfl) (by kernel_rfl) (by kernel_rfl) (fun _ _ _ h => h) (Or.inl ⟨by rfl, ?hq5_18⟩) (by assumption) ?_
      case hq5_18 => intro w hSw; (try dsimp only at hSw); go_simp; try (with_reducible rfl)
      (try simp only [Act.put, qA, qB, qC])
      refine wpAnyH_take (i := 6) (oi := { dst := some 11, op := Op.load 27 (Operand.tmp 10), type := 27, pos := "valid.go:52", after := #[{ on := 5, ground := Ground.data }], guard := none }) (v := ?vq6_19) rfl (by kernel_rfl) (by kernel_rfl) (by kernel_rfl) (fun _ _ _ h => h) (Or.inl ⟨by rfl, ?hq6_19⟩) (by assumption) ?_
      case hq6_19 => intro w hSw; (try dsimp only at hSw); go_simp; try (with_reducible rfl)
      (try simp only [Act.put, qA, qB, qC])
      refine wpAnyH_take (i := 7) (oi := { dst := some 12, op := Op.call { callee := Callee.builtin Builtin.len, args := #[Operand.tmp 11], argTypes := #[27] }, type := 3, pos := "valid.go:52", after := #[{ on := 6, ground := Ground.data }], guard := none }) (v := ?vq7_20) rfl (by kernel_rfl) (by kernel_rfl) (by kernel_rfl) (fun _ _ _ h => h) (Or.inl ⟨by rfl, ?hq7_20⟩) (by assumption) ?_
      case hq7_20 => intro w hSw; (try dsimp only at hSw); go_simp; try (with_reducible rfl)
      (try simp only [Act.put, qA, qB, qC])
      refine wpAnyH_take (i := 8) (oi := { dst := some 13, op := Op.binOp BinOp.sub 3 (Operand.tmp 12) (Operand.const (Value.int IntKind.i64 1)) 3, type := 3, pos := "valid.go:52", after := #[{ on := 7, ground := Ground.data }], guard := none }) (v := .int .i64 ((nl : Int) - 1)) rfl (by kernel_rfl) (by kernel_rfl) (by kernel_rfl) (fun _ _ _ h => h) (Or.inl ⟨by rfl, ?hq8_21⟩) (by assumption) ?_
      case hq8_21 => intro w hSw; (try dsimp only at hSw); go_simp; first | done | (with_reducible rfl) | (have h0 := HLL.out; rw [IntKind.wrap_i64]; omega)
      (try simp only [Act.put, qA, qB, qC])
      refine wpAnyH_ready (rs := [9]) (by kernel_rfl) (by simp) ?_
      refine AllReadyH.cons (o := { dst := some 14, op := Op.call { callee := Callee.value (Operand.func 48), args := #[Operand.tmp 6, Operand.tmp 13], argTypes := #[3, 3] }, type := 4, pos := "valid.go:52", after := #[{ on := 1, ground := Ground.data }, { on := 8, ground := Ground.data }], guard := none }) rfl (fun K hK => ?_) AllReadyH.nil
      go_simp
      refine (HPL.out W0.drew).mono ?_
      rintro e W1 ⟨rfl, h9⟩
      subst h9
      refine hK.out _ _ ?_ (fun hHeld => ?_)
      · exact ⟨y0, y1, v5⟩
      clear hK K
      (try simp only [Act.put, qA, qB, qC])
      refine wpAnyH_take (i := 10) (oi := { dst := some 15, op := Op.move (Operand.tmp 14), type := 4, pos := "valid.go:52", after := #[{ on := 9, ground := Ground.data }, { on := 9, ground := Ground.chain }], guard := none }) (v := ?vq10_22) rfl (by kernel_rfl) (by kernel_rfl) (by kernel_rfl) (fun _ _ _ h => h) (Or.inl ⟨by rfl, ?hq10_22⟩) (by assumption) ?_
      case hq10_22 => intro w hSw; (try dsimp only at hSw); go_simp; try (with_reducible rfl)
      (try simp only [Act.put, qA, qB, qC])
      refine wpAnyH_take (i := 11) (oi := { dst := some 16, op := Op.fieldAddr 33 (Operand.tmp 3) 1, type := 0, pos := "valid.go:52", after := #[{ on := 10, ground := Ground.guard }], guard := some (10, true) }) (v := ?vq11_23) rfl (by kernel_rfl) (by kernel_rfl) (by kernel_rfl) (fun _ _ _ h => h) (Or.inl ⟨by rfl, ?hq11_23⟩) (by assumption) ?_
      case hq11_23 => intro w hSw; (try dsimp only at hSw); go_simp; try (with_reducible rfl)
      (try simp only [Act.put, qA, qB, qC])
      refine wpAnyH_take (i := 12) (oi := { dst := some 17, op := Op.load 31 (Operand.tmp 16), type := 31, pos := "valid.go:52", after := #[{ on := 11, ground := Ground.data }, { on := 10, ground := Ground.guard }], guard := some (10, true) }) (v := ?vq12_24) rfl (by kernel_rfl) (by kernel_rfl) (by kernel_rfl) (fun _ _ _ h => h) (Or.inl ⟨by rfl, ?hq12_24⟩) (by assumption) ?_
      case hq12_24 => intro w hSw; (try dsimp only at hSw); go_simp; try (with_reducible rfl)
      (try simp only [Act.put, qA, qB, qC])
      refine wpAnyH_take (i := 13) (oi := { dst := some 18, op := Op.call { callee := Callee.builtin Builtin.len, args := #[Operand.tmp 17], argTypes := #[31] }, type := 3, pos := "valid.go:52", after := #[{ on := 12, ground := Ground.data }, { on := 10, ground := Ground.guard }], guard := some (10, true) }) (v := ?vq13_25) rfl (by kernel_rfl) (by kernel_rfl) (by kernel_rfl) (fun _ _ _ h => h) (Or.inl ⟨by rfl, ?hq13_25⟩) (by assumption) ?_
      case hq13_25 => intro w hSw; (try dsimp only at hSw); go_simp; try (with_reducible rfl)
      (try simp only [Act.put, qA, qB, qC])
      refine wpAnyH_take (i := 14) (oi := { dst := some 19, op := Op.binOp BinOp.eql 3 (Operand.tmp 18) (Operand.const (Value.int IntKind.i64 0)) 3, type := 4, pos := "valid.go:52", after := #[{ on := 13, ground := Ground.data }, { on := 10, ground := Ground.guard }], guard := some (10, true) }) (v := .bool true) rfl (by kernel_rfl) (by kernel_rfl) (by kernel_rfl) (fun _ _ _ h => h) (Or.inl ⟨by rfl, ?hq14_26⟩) (by assumption) ?_
      case hq14_26 => intro w hSw; (try dsimp only at hSw); go_simp; first | done | (with_reducible rfl) | (have h0 := HL0.out; simp [h0])
      (try simp only [Act.put, qA, qB, qC])
      refine wpAnyH_take (i := 15) (oi := { dst := some 20, op := Op.pick (Operand.tmp 15) (Operand.tmp 19) (Operand.const (Value.bool false)), type := 4, pos := "valid.go:52", after := #[{ on := 10, ground := Ground.data }, { on := 14, ground := Ground.data }], guard := none }) (v := ?vq15_27) rfl (by kernel_rfl) (by kernel_rfl) (by kernel_rfl) (fun _ _ _ h => h) (Or.inl ⟨by rfl, ?hq15_27⟩) (by assumption) ?_
      case hq15_27 => intro w hSw; (try dsimp only at hSw); go_simp; try (with_reducible rfl)
      (try simp only [Act.put, qA, qB, qC])
      refine wpAnyH_take (i := 16) (oi := { dst := some 4, op := Op.assign (Operand.tmp 20), type := 4, pos := "valid.go:52", after := #[{ on := 15, ground := Ground.data }, { on := 10, ground := Ground.chain }, { on := 0, ground := Ground.phase }, { on := 1, ground := Ground.phase }, { on := 2, ground := Ground.phase }, { on := 3, ground := Ground.phase }, { on := 4, ground := Ground.phase }, { on := 5, ground := Ground.phase }, { on := 6, ground := Ground.phase }, { on := 7, ground := Ground.phase }, { on := 8, ground := Ground.phase }, { on := 9, ground := Ground.phase }, { on := 10, ground := Ground.phase }, { on := 11, ground := Ground.phase }, { on := 12, ground := Ground.phase }, { on := 13, ground := Ground.phase }, { on := 14, ground := Ground.phase }, { on := 15, ground := Ground.phase }], guard := none }) (v := ?vq16_28) rfl (by kernel_rfl) (by kernel_rfl) (by kernel_rfl) (fun _ _ _ h => h) (Or.inl ⟨by rfl, ?hq16_28⟩) (by assumption) ?_
      case hq16_28 => intro w hSw; (try dsimp only at hSw); go_simp; try (with_reducible rfl)
      (try simp only [Act.put, qA, qB, qC])
      refine wpAnyH_done (by kernel_rfl) ?_ _
      clear y0 y1 yf yl v0 v1 v2 v3 v4 v5 v6 vl
      go_wp2
      go_ret
      exact ⟨by have h0 := HL0.out; simp [h0], HB0.out.trans ⟨rfl, rfl, rfl, Nat.le_refl _, fun _ _ => rfl⟩⟩
    · have HL0 := Lib.hid hl0
      clear hl0
      refine wp_region_held_drew (S := (fun w' => w'.cell? ⟨N, 0, none⟩ = some (.int .i64 loc) ∧ w'.cell? ⟨N, 1, none⟩ = some (.slice ph.oa np ph.cap) ∧ w'.cell? ⟨v, 5, none⟩ = some (.slice o4 nl c4))) (by kernel_rfl) ?_ (fun hHeld => ?_)
      · exact ⟨y0, y1, v5⟩
      refine wpAnyH_take (i := 0) (oi := { dst := some 5, op := Op.fieldAddr 33 (Operand.tmp 3) 0, type := 0, pos := "valid.go:52", after := #[], guard := none }) (v := ?vq0_29) rfl (by kernel_rfl) (by kernel_rfl) (by kernel_rfl) (fun _ _ _ h => h) (Or.inl ⟨by rfl, ?hq0_29⟩) (by assumption) ?_
      case hq0_29 => intro w hSw; (try dsimp only at hSw); go_simp; try (with_reducible rfl)
      (try simp only [Act.put, qA, qB, qC])
      refine wpAnyH_take (i := 1) (oi := { dst := some 6, op := Op.load 3 (Operand.tmp 5), type := 3, pos := "valid.go:52", after := #[{ on := 0, ground := Ground.data }], guard := none }) (v := ?vq1_30) rfl (by kernel_rfl) (by kernel_rfl) (by kernel_rfl) (fun _ _ _ h => h) (Or.inl ⟨by rfl, ?hq1_30⟩) (by assumption) ?_
      case hq1_30 => intro w hSw; (try dsimp only at hSw); go_simp; try (with_reducible rfl)
      (try simp only [Act.put, qA, qB, qC])
      refine wpAnyH_take (i := 2) (oi := { dst := some 7, op := Op.move (Operand.tmp 0), type := 85, pos := "valid.go:52", after := #[], guard := none }) (v := ?vq2_31) rfl (by kernel_rfl) (by kernel_rfl) (by kernel_rfl) (fun _ _ _ h => h) (Or.inl ⟨by rfl, ?hq2_31⟩) (by assumption) ?_
      case hq2_31 => intro w hSw; (try dsimp only at hSw); go_simp; try (with_reducible rfl)
      (try simp only [Act.put, qA, qB, qC])
      refine wpAnyH_take (i := 3) (oi := { dst := some 8, op := Op.nilCheck (Operand.tmp 7), type := 0, pos := "valid.go:52", after := #[{ on := 2, ground := Ground.data }], guard := none }) (v := ?vq3_32) rfl (by kernel_rfl) (by kernel_rfl) (by kernel_rfl) (fun _ _ _ h => h) (Or.inl ⟨by rfl, ?hq3_32⟩) (by assumption) ?_
      case hq3_32 => intro w hSw; (try dsimp only at hSw); go_simp; try (with_reducible rfl)
      (try simp only [Act.put, qA, qB, qC])
      refine wpAnyH_take (i := 4) (oi := { dst := some 9, op := Op.fieldAddr 87 (Operand.tmp 8) 1, type := 0, pos := "valid.go:52", after := #[{ on := 3, ground := Ground.data }], guard := none }) (v := ?vq4_33) rfl (by kernel_rfl) (by kernel_rfl) (by kernel_rfl) (fun _ _ _ h => h) (Or.inl ⟨by rfl, ?hq4_33⟩) (by assumption) ?_
      case hq4_33 => intro w hSw; (try dsimp only at hSw); go_simp; try (with_reducible rfl)
      (try simp only [Act.put, qA, qB, qC])
      refine wpAnyH_take (i := 5) (oi := { dst := some 10, op := Op.fieldAddr 30 (Operand.tmp 9) 2, type := 0, pos := "valid.go:52", after := #[{ on := 4, ground := Ground.data }], guard := none }) (v := ?vq5_34) rfl (by kernel_rfl) (by kernel_rfl) (by kernel_rfl) (fun _ _ _ h => h) (Or.inl ⟨by rfl, ?hq5_34⟩) (by assumption) ?_
      case hq5_34 => intro w hSw; (try dsimp only at hSw); go_simp; try (with_reducible rfl)
      (try simp only [Act.put, qA, qB, qC])
      refine wpAnyH_take (i := 6) (oi := { dst := some 11, op := Op.load 27 (Operand.tmp 10), type := 27, pos := "valid.go:52", after := #[{ on := 5, ground := Ground.data }], guard := none }) (v := ?vq6_35) rfl (by kernel_rfl) (by kernel_rfl) (by kernel_rfl) (fun _ _ _ h => h) (Or.inl ⟨by rfl, ?hq6_35⟩) (by assumption) ?_
      case hq6_35 => intro w hSw; (try dsimp only at hSw); go_simp; try (with_reducible rfl)
      (try simp only [Act.put, qA, qB, qC])
      refine wpAnyH_take (i := 7) (oi := { dst := some 12, op := Op.call { callee := Callee.builtin Builtin.len, args := #[Operand.tmp 11], argTypes := #[27] }, type := 3, pos := "valid.go:52", after := #[{ on := 6, ground := Ground.data }], guard := none }) (v := ?vq7_36) rfl (by kernel_rfl) (by kernel_rfl) (by kernel_rfl) (fun _ _ _ h => h) (Or.inl ⟨by rfl, ?hq7_36⟩) (by assumption) ?_
      case hq7_36 => intro w hSw; (try dsimp only at hSw); go_simp; try (with_reducible rfl)
      (try simp only [Act.put, qA, qB, qC])
      refine wpAnyH_take (i := 8) (oi := { dst := some 13, op := Op.binOp BinOp.sub 3 (Operand.tmp 12) (Operand.const (Value.int IntKind.i64 1)) 3, type := 3, pos := "valid.go:52", after := #[{ on := 7, ground := Ground.data }], guard := none }) (v := .int .i64 ((nl : Int) - 1)) rfl (by kernel_rfl) (by kernel_rfl) (by kernel_rfl) (fun _ _ _ h => h) (Or.inl ⟨by rfl, ?hq8_37⟩) (by assumption) ?_
      case hq8_37 => intro w hSw; (try dsimp only at hSw); go_simp; first | done | (with_reducible rfl) | (have h0 := HLL.out; rw [IntKind.wrap_i64]; omega)
      (try simp only [Act.put, qA, qB, qC])
      refine wpAnyH_ready (rs := [9]) (by kernel_rfl) (by simp) ?_
      refine AllReadyH.cons (o := { dst := some 14, op := Op.call { callee := Callee.value (Operand.func 48), args := #[Operand.tmp 6, Operand.tmp 13], argTypes := #[3, 3] }, type := 4, pos := "valid.go:52", after := #[{ on := 1, ground := Ground.data }, { on := 8, ground := Ground.data }], guard := none }) rfl (fun K hK => ?_) AllReadyH.nil
      go_simp
      refine (HPL.out W0.drew).mono ?_
      rintro e W1 ⟨rfl, h9⟩
      subst h9
      refine hK.out _ _ ?_ (fun hHeld => ?_)
      · exact ⟨y0, y1, v5⟩
      clear hK K
      (try simp only [Act.put, qA, qB, qC])
      refine wpAnyH_take (i := 10) (oi := { dst := some 15, op := Op.move (Operand.tmp 14), type := 4, pos := "valid.go:52", after := #[{ on := 9, ground := Ground.data }, { on := 9, ground := Ground.chain }], guard := none }) (v := ?vq10_38) rfl (by kernel_rfl) (by kernel_rfl) (by kernel_rfl) (fun _ _ _ h => h) (Or.inl ⟨by rfl, ?hq10_38⟩) (by assumption) ?_
      case hq10_38 => intro w hSw; (try dsimp only at hSw); go_simp; try (with_reducible rfl)
      (try simp only [Act.put, qA, qB, qC])
      refine wpAnyH_take (i := 11) (oi := { dst := some 16, op := Op.fieldAddr 33 (Operand.tmp 3) 1, type := 0, pos := "valid.go:52", after := #[{ on := 10, ground := Ground.guard }], guard := some (10, true) }) (v := ?vq11_39) rfl (by kernel_rfl) (by kernel_rfl) (by kernel_rfl) (fun _ _ _ h => h) (Or.inl ⟨by rfl, ?hq11_39⟩) (by assumption) ?_
      case hq11_39 => intro w hSw; (try dsimp only at hSw); go_simp; try (with_reducible rfl)
      (try simp only [Act.put, qA, qB, qC])
      refine wpAnyH_take (i := 12) (oi := { dst := some 17, op := Op.load 31 (Operand.tmp 16), type := 31, pos := "valid.go:52", after := #[{ on := 11, ground := Ground.data }, { on := 10, ground := Ground.guard }], guard := some (10, true) }) (v := ?vq12_40) rfl (by kernel_rfl) (by kernel_rfl) (by kernel_rfl) (fun _ _ _ h => h) (Or.inl ⟨by rfl, ?hq12_40⟩) (by assumption) ?_
      case hq12_40 => intro w hSw; (try dsimp only at hSw); go_simp; try (with_reducible rfl)
      (try simp only [Act.put, qA, qB, qC])
      refine wpAnyH_take (i := 13) (oi := { dst := some 18, op := Op.call { callee := Callee.builtin Builtin.len, args := #[Operand.tmp 17], argTypes := #[31] }, type := 3, pos := "valid.go:52", after := #[{ on := 12, ground := Ground.data }, { on := 10, ground := Ground.guard }], guard := some (10, true) }) (v := ?vq13_41) rfl (by kernel_rfl) (by kernel_rfl) (by kernel_rfl) (fun _ _ _ h => h) (Or.inl ⟨by rfl, ?hq13_41⟩) (by assumption) ?_
      case hq13_41 => intro w hSw; (try dsimp only at hSw); go_simp; try (with_reducible rfl)
      (try simp only [Act.put, qA, qB, qC])
      refine wpAnyH_take (i := 14) (oi := { dst := some 19, op := Op.binOp BinOp.eql 3 (Operand.tmp 18) (Operand.const (Value.int IntKind.i64 0)) 3, type := 4, pos := "valid.go:52", after := #[{ on := 13, ground := Ground.data }, { on := 10, ground := Ground.guard }], guard := some (10, true) }) (v := .bool false) rfl (by kernel_rfl) (by kernel_rfl) (by kernel_rfl) (fun _ _ _ h => h) (Or.inl ⟨by rfl, ?hq14_42⟩) (by assumption) ?_
      case hq14_42 => intro w hSw; (try dsimp only at hSw); go_simp; first | done | (with_reducible rfl) | (have h0 := HL0.out; simp [h0])
      (try simp only [Act.put, qA, qB, qC])
      refine wpAnyH_take (i := 15) (oi := { dst := some 20, op := Op.pick (Operand.tmp 15) (Operand.tmp 19) (Operand.const (Value.bool false)), type := 4, pos := "valid.go:52", after := #[{ on := 10, ground := Ground.data }, { on := 14, ground := Ground.data }], guard := none }) (v := ?vq15_43) rfl (by kernel_rfl) (by kernel_rfl) (by kernel_rfl) (fun _ _ _ h => h) (Or.inl ⟨by rfl, ?hq15_43⟩) (by assumption) ?_
      case hq15_43 => intro w hSw; (try dsimp only at hSw); go_simp; try (with_reducible rfl)
      (try simp only [Act.put, qA, qB, qC])
      refine wpAnyH_take (i := 16) (oi := { dst := some 4, op := Op.assign (Operand.tmp 20), type := 4, pos := "valid.go:52", after := #[{ on := 15, ground := Ground.data }, { on := 10, ground := Ground.chain }, { on := 0, ground := Ground.phase }, { on := 1, ground := Ground.phase }, { on := 2, ground := Ground.phase }, { on := 3, ground := Ground.phase }, { on := 4, ground := Ground.phase }, { on := 5, ground := Ground.phase }, { on := 6, ground := Ground.phase }, { on := 7, ground := Ground.phase }, { on := 8, ground := Ground.phase }, { on := 9, ground := Ground.phase }, { on := 10, ground := Ground.phase }, { on := 11, ground := Ground.phase }, { on := 12, ground := Ground.phase }, { on := 13, ground := Ground.phase }, { on := 14, ground := Ground.phase }, { on := 15, ground := Ground.phase }], guard := none }) (v := ?vq16_44) rfl (by kernel_rfl) (by kernel_rfl) (by kernel_rfl) (fun _ _ _ h => h) (Or.inl ⟨by rfl, ?hq16_44⟩) (by assumption) ?_
      case hq16_44 => intro w hSw; (try dsimp only at hSw); go_simp; try (with_reducible rfl)
      (try simp only [Act.put, qA, qB, qC])
      refine wpAnyH_done (by kernel_rfl) ?_ _
      clear y0 y1 yf yl v0 v1 v2 v3 v4 v5 v6 vl
      go_wp2
      go_ret
      exact ⟨by have h0 := HL0.out; simp [h0], HB0.out.trans ⟨rfl, rfl, rfl, Nat.le_refl _, fun _ _ => rfl⟩⟩

end Go.Proofs.YtghkbihgdabamaaGreatDoor
