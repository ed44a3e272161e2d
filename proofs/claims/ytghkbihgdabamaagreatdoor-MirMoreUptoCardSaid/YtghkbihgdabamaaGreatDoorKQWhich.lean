/-
  mir's which and tag: what a value is made by. Conditions: the view lies in the heap; of a variant its enum is there.
-/
import Derived.Test.YtghkbihgdabamaaGreatDoorKQIntoA
namespace Go.Proofs.YtghkbihgdabamaaGreatDoor
open Go.RowKit

def whichR (s : So5) (x : Va) : Int := cond (x.k == 10) (if plB x.which s.structs.length then 0 else 71) (cond (x.k == 11) (if plB x.which s.enums.length then 0 else 71) (cond (x.k == 12) (if plB x.which s.fns.length then 0 else 71) (if plB x.which 1 then 0 else 80)))
set_option maxRecDepth 100000 in
set_option maxHeartbeats 4000000 in
theorem which_any (s : So5) (b : Bo) (v : Nat) (x : Va) (w : World) (hv : ViewAt w v s b) :
    Calls Tryz.prog 53 #[.pointer (some ⟨v, 0, none⟩), vaV x] w fun e w' => e = .returned (.int .i64 (whichR s x)) ∧ Below w.heap.size w w' := by
  obtain ⟨k, hu, uses, ⟨loc, h, path⟩, which, tag⟩ := x
  simp only [vaV, vaC, spC, List.cons_append, List.nil_append, whichR]
  obtain ⟨n1, hn1⟩ : ∃ k, s.structs.length = k := ⟨_, rfl⟩
  obtain ⟨n2, hn2⟩ : ∃ k, s.enums.length = k := ⟨_, rfl⟩
  obtain ⟨n3, hn3⟩ : ∃ k, s.fns.length = k := ⟨_, rfl⟩
  obtain ⟨o1, c1, hh1⟩ : ∃ o c, s.hs = ⟨o, c⟩ := ⟨_, _, rfl⟩
  obtain ⟨o2, c2, hh2⟩ : ∃ o c, s.he = ⟨o, c⟩ := ⟨_, _, rfl⟩
  obtain ⟨o3, c3, hh3⟩ : ∃ o c, s.hf = ⟨o, c⟩ := ⟨_, _, rfl⟩
  unfold ViewAt at hv
  simp only [hh1, hh2, hh3, hn1, hn2, hn3] at hv ⊢
  obtain ⟨W0, hW⟩ : ∃ W, W = w.alloc (.cells #[.int .i64 k, .slice hu.oa uses.length hu.cap, .int .i64 loc, .slice h.oa path.length h.cap, .int .i64 which, .int .i64 tag] 37) := ⟨_, rfl⟩
  have hb0 : Below w.heap.size w W0 := by rw [hW]; exact alloc_below _ _
  have hx0 : W0.heap[w.heap.size]? = some (.cells #[.int .i64 k, .slice hu.oa uses.length hu.cap, .int .i64 loc, .slice h.oa path.length h.cap, .int .i64 which, .int .i64 tag] 37) := by rw [hW]; exact heap_alloc_new _ _
  have hv0 := (hb0.block v (blk_lt hv)).trans hv
  obtain ⟨N, hN⟩ : ∃ N, N = w.heap.size := ⟨_, rfl⟩
  rw [← hN] at hx0
  have HB := Lib.hid hb0
  have y0 : W0.cell? ⟨N, 0, none⟩ = some (.int .i64 k) := by simp only [World.cell?, hx0]; rfl
  have y4 : W0.cell? ⟨N, 4, none⟩ = some (.int .i64 which) := by simp only [World.cell?, hx0]; rfl
  have y5 : W0.cell? ⟨N, 5, none⟩ = some (.int .i64 tag) := by simp only [World.cell?, hx0]; rfl
  have z0 : W0.cell? ⟨v, 0, none⟩ = some (.slice o1 n1 c1) := by simp only [World.cell?, hv0]; rfl
  have z1 : W0.cell? ⟨v, 1, none⟩ = some (.slice o2 n2 c2) := by simp only [World.cell?, hv0]; rfl
  have z2 : W0.cell? ⟨v, 2, none⟩ = some (.slice o3 n3 c3) := by simp only [World.cell?, hv0]; rfl
  have hf1 := fun W => found_any which n1 71 W
  have hf2 := fun W => found_any which n2 71 W
  have hf3 := fun W => found_any which n3 71 W
  have hf4 := fun W => found_any which 1 80 W
  obtain ⟨R1, hR1⟩ : ∃ R, (if plB which (n1 : Int) then (0 : Int) else 71) = R := ⟨_, rfl⟩
  obtain ⟨R2, hR2⟩ : ∃ R, (if plB which (n2 : Int) then (0 : Int) else 71) = R := ⟨_, rfl⟩
  obtain ⟨R3, hR3⟩ : ∃ R, (if plB which (n3 : Int) then (0 : Int) else 71) = R := ⟨_, rfl⟩
  obtain ⟨R4, hR4⟩ : ∃ R, (if plB which 1 then (0 : Int) else 80) = R := ⟨_, rfl⟩
  rw [hR1] at hf1
  rw [hR2] at hf2
  rw [hR3] at hf3
  rw [hR4] at hf4
  rw [hR1, hR2, hR3, hR4]
  have HF1 := Lib.hid hf1
  have HF2 := Lib.hid hf2
  have HF3 := Lib.hid hf3
  have HF4 := Lib.hid hf4
  clear hf1 hf2 hf3 hf4 hR1 hR2 hR3 hR4
  clear hv hb0 hx0 hv0 hn1 hn2 hn3 hh1 hh2 hh3 y5
  go_enter Tryz.func53, Tryz.ntmps53
  go_upto_region 1 with fail
  rw [← hW]
  clear hW
  try simp only [← hN]
  clear hN
  cases e1 : (k == 10) with
  | true =>
    have hSS := And.intro y4 z0
    go_upto_region 3 with fail
    refine wp_region_held_drew (S := (fun w' => w'.cell? ⟨N, 4, none⟩ = some (.int .i64 which) ∧ w'.cell? ⟨v, 0, none⟩ = some (.slice o1 n1 c1))) (by kernel_rfl) ?_ (fun hHeld => ?_)
    · exact hSS
    refine wpAnyH_take (i := 0) (oi := { dst := some 9, op := Op.fieldAddr 37 (Operand.tmp 3) 3, type := 0, pos := "value.go:27", after := #[], guard := none }) (v := ?vq0_15) rfl (by kernel_rfl) (by kernel_rfl) (by kernel_rfl) (fun _ _ _ h => h) (Or.inl ⟨by rfl, ?hq0_15⟩) (by assumption) ?_
    case hq0_15 => intro w hSw; (try dsimp only at hSw); go_simp; try (with_reducible rfl)
    (try simp only [Act.put, qA, qB, qC])
    refine wpAnyH_take (i := 1) (oi := { dst := some 10, op := Op.load 3 (Operand.tmp 9), type := 3, pos := "value.go:27", after := #[{ on := 0, ground := Ground.data }], guard := none }) (v := ?vq1_16) rfl (by kernel_rfl) (by kernel_rfl) (by kernel_rfl) (fun _ _ _ h => h) (Or.inl ⟨by rfl, ?hq1_16⟩) (by assumption) ?_
    case hq1_16 => intro w hSw; (try dsimp only at hSw); go_simp; try (with_reducible rfl)
    (try simp only [Act.put, qA, qB, qC])
    refine wpAnyH_take (i := 2) (oi := { dst := some 11, op := Op.move (Operand.tmp 0), type := 85, pos := "value.go:27", after := #[], guard := none }) (v := ?vq2_17) rfl (by kernel_rfl) (by kernel_rfl) (by kernel_rfl) (fun _ _ _ h => h) (Or.inl ⟨by rfl, ?hq2_17⟩) (by assumption) ?_
    case hq2_17 => intro w hSw; (try dsimp only at hSw); go_simp; try (with_reducible rfl)
    (try simp only [Act.put, qA, qB, qC])
    refine wpAnyH_take (i := 3) (oi := { dst := some 12, op := Op.nilCheck (Operand.tmp 11), type := 0, pos := "value.go:27", after := #[{ on := 2, ground := Ground.data }], guard := none }) (v := ?vq3_18) rfl (by kernel_rfl) (by kernel_rfl) (by kernel_rfl) (fun _ _ _ h => h) (Or.inl ⟨by rfl, ?hq3_18⟩) (by assumption) ?_
    case hq3_18 => intro w hSw; (try dsimp only at hSw); go_simp; try (with_reducible rfl)
    (try simp only [Act.put, qA, qB, qC])
    refine wpAnyH_take (i := 4) (oi := { dst := some 13, op := Op.fieldAddr 87 (Operand.tmp 12) 0, type := 0, pos := "value.go:27", after := #[{ on := 3, ground := Ground.data }], guard := none }) (v := ?vq4_19) rfl (by kernel_rfl) (by kernel_rfl) (by kernel_rfl) (fun _ _ _ h => h) (Or.inl ⟨by rfl, ?hq4_19⟩) (by assumption) ?_
    case hq4_19 => intro w hSw; (try dsimp only at hSw); go_simp; try (with_reducible rfl)
    (try simp only [Act.put, qA, qB, qC])
    refine wpAnyH_take (i := 5) (oi := { dst := some 14, op := Op.fieldAddr 26 (Operand.tmp 13) 0, type := 0, pos := "value.go:27", after := #[{ on := 4, ground := Ground.data }], guard := none }) (v := ?vq5_20) rfl (by kernel_rfl) (by kernel_rfl) (by kernel_rfl) (fun _ _ _ h => h) (Or.inl ⟨by rfl, ?hq5_20⟩) (by assumption) ?_
    case hq5_20 => intro w hSw; (try dsimp only at hSw); go_simp; try (with_reducible rfl)
    (try simp only [Act.put, qA, qB, qC])
    refine wpAnyH_take (i := 6) (oi := { dst := some 15, op := Op.load 22 (Operand.tmp 14), type := 22, pos := "value.go:27", after := #[{ on := 5, ground := Ground.data }], guard := none }) (v := ?vq6_21) rfl (by kernel_rfl) (by kernel_rfl) (by kernel_rfl) (fun _ _ _ h => h) (Or.inl ⟨by rfl, ?hq6_21⟩) (by assumption) ?_
    case hq6_21 => intro w hSw; (try dsimp only at hSw); go_simp; try (with_reducible rfl)
    (try simp only [Act.put, qA, qB, qC])
    refine wpAnyH_take (i := 7) (oi := { dst := some 16, op := Op.call { callee := Callee.builtin Builtin.len, args := #[Operand.tmp 15], argTypes := #[22] }, type := 3, pos := "value.go:27", after := #[{ on := 6, ground := Ground.data }], guard := none }) (v := ?vq7_22) rfl (by kernel_rfl) (by kernel_rfl) (by kernel_rfl) (fun _ _ _ h => h) (Or.inl ⟨by rfl, ?hq7_22⟩) (by assumption) ?_
    case hq7_22 => intro w hSw; (try dsimp only at hSw); go_simp; try (with_reducible rfl)
    (try simp only [Act.put, qA, qB, qC])
    refine wpAnyH_ready (rs := [8]) (by kernel_rfl) (by simp) ?_
    refine AllReadyH.cons (o := { dst := some 17, op := Op.call { callee := Callee.value (Operand.func 84), args := #[Operand.tmp 10, Operand.tmp 16, Operand.const (Value.int IntKind.i64 71)], argTypes := #[3, 3, 47] }, type := 47, pos := "value.go:27", after := #[{ on := 1, ground := Ground.data }, { on := 7, ground := Ground.data }], guard := none }) rfl (fun K hK => ?_) AllReadyH.nil
    go_simp
    refine (HF1.out _).mono ?_
    rintro e w9 ⟨rfl, rfl⟩
    refine hK.out _ _ hSS (fun hHeld => ?_)
    clear hK K
    (try simp only [Act.put, qA, qB, qC])
    refine wpAnyH_take (i := 9) (oi := { dst := some 4, op := Op.assign (Operand.tmp 17), type := 47, pos := "value.go:27", after := #[{ on := 8, ground := Ground.data }, { on := 8, ground := Ground.chain }, { on := 0, ground := Ground.phase }, { on := 1, ground := Ground.phase }, { on := 2, ground := Ground.phase }, { on := 3, ground := Ground.phase }, { on := 4, ground := Ground.phase }, { on := 5, ground := Ground.phase }, { on := 6, ground := Ground.phase }, { on := 7, ground := Ground.phase }, { on := 8, ground := Ground.phase }], guard := none }) (v := ?vq9_23) rfl (by kernel_rfl) (by kernel_rfl) (by kernel_rfl) (fun _ _ _ h => h) (Or.inl ⟨by rfl, ?hq9_23⟩) (by assumption) ?_
    case hq9_23 => intro w hSw; (try dsimp only at hSw); go_simp; try (with_reducible rfl)
    (try simp only [Act.put, qA, qB, qC])
    refine wpAnyH_done (by kernel_rfl) ?_ _
    go_wp2
    go_ret
    exact ⟨by simp [e1], HB.out.drew⟩
  | false =>
    cases e2 : (k == 11) with
    | true =>
      have hSS := And.intro y4 z1
      go_upto_region 5 with fail
      refine wp_region_held_drew (S := (fun w' => w'.cell? ⟨N, 4, none⟩ = some (.int .i64 which) ∧ w'.cell? ⟨v, 1, none⟩ = some (.slice o2 n2 c2))) (by kernel_rfl) ?_ (fun hHeld => ?_)
      · exact hSS
      refine wpAnyH_take (i := 0) (oi := { dst := some 20, op := Op.fieldAddr 37 (Operand.tmp 3) 3, type := 0, pos := "value.go:29", after := #[], guard := none }) (v := ?vq0_24) rfl (by kernel_rfl) (by kernel_rfl) (by kernel_rfl) (fun _ _ _ h => h) (Or.inl ⟨by rfl, ?hq0_24⟩) (by assumption) ?_
      case hq0_24 => intro w hSw; (try dsimp only at hSw); go_simp; try (with_reducible rfl)
      (try simp only [Act.put, qA, qB, qC])
      refine wpAnyH_take (i := 1) (oi := { dst := some 21, op := Op.load 3 (Operand.tmp 20), type := 3, pos := "value.go:29", after := #[{ on := 0, ground := Ground.data }], guard := none }) (v := ?vq1_25) rfl (by kernel_rfl) (by kernel_rfl) (by kernel_rfl) (fun _ _ _ h => h) (Or.inl ⟨by rfl, ?hq1_25⟩) (by assumption) ?_
      case hq1_25 => intro w hSw; (try dsimp only at hSw); go_simp; try (with_reducible rfl)
      (try simp only [Act.put, qA, qB, qC])
      refine wpAnyH_take (i := 2) (oi := { dst := some 22, op := Op.move (Operand.tmp 0), type := 85, pos := "value.go:29", after := #[], guard := none }) (v := ?vq2_26) rfl (by kernel_rfl) (by kernel_rfl) (by kernel_rfl) (fun _ _ _ h => h) (Or.inl ⟨by rfl, ?hq2_26⟩) (by assumption) ?_
      case hq2_26 => intro w hSw; (try dsimp only at hSw); go_simp; try (with_reducible rfl)
      (try simp only [Act.put, qA, qB, qC])
      refine wpAnyH_take (i := 3) (oi := { dst := some 23, op := Op.nilCheck (Operand.tmp 22), type := 0, pos := "value.go:29", after := #[{ on := 2, ground := Ground.data }], guard := none }) (v := ?vq3_27) rfl (by kernel_rfl) (by kernel_rfl) (by kernel_rfl) (fun _ _ _ h => h) (Or.inl ⟨by rfl, ?hq3_27⟩) (by assumption) ?_
      case hq3_27 => intro w hSw; (try dsimp only at hSw); go_simp; try (with_reducible rfl)
      (try simp only [Act.put, qA, qB, qC])
      refine wpAnyH_take (i := 4) (oi := { dst := some 24, op := Op.fieldAddr 87 (Operand.tmp 23) 0, type := 0, pos := "value.go:29", after := #[{ on := 3, ground := Ground.data }], guard := none }) (v := ?vq4_28) rfl (by kernel_rfl) (by kernel_rfl) (by kernel_rfl) (fun _ _ _ h => h) (Or.inl ⟨by rfl, ?hq4_28⟩) (by assumption) ?_
      case hq4_28 => intro w hSw; (try dsimp only at hSw); go_simp; try (with_reducible rfl)
      (try simp only [Act.put, qA, qB, qC])
      refine wpAnyH_take (i := 5) (oi := { dst := some 25, op := Op.fieldAddr 26 (Operand.tmp 24) 1, type := 0, pos := "value.go:29", after := #[{ on := 4, ground := Ground.data }], guard := none }) (v := ?vq5_29) rfl (by kernel_rfl) (by kernel_rfl) (by kernel_rfl) (fun _ _ _ h => h) (Or.inl ⟨by rfl, ?hq5_29⟩) (by assumption) ?_
      case hq5_29 => intro w hSw; (try dsimp only at hSw); go_simp; try (with_reducible rfl)
      (try simp only [Act.put, qA, qB, qC])
      refine wpAnyH_take (i := 6) (oi := { dst := some 26, op := Op.load 23 (Operand.tmp 25), type := 23, pos := "value.go:29", after := #[{ on := 5, ground := Ground.data }], guard := none }) (v := ?vq6_30) rfl (by kernel_rfl) (by kernel_rfl) (by kernel_rfl) (fun _ _ _ h => h) (Or.inl ⟨by rfl, ?hq6_30⟩) (by assumption) ?_
      case hq6_30 => intro w hSw; (try dsimp only at hSw); go_simp; try (with_reducible rfl)
      (try simp only [Act.put, qA, qB, qC])
      refine wpAnyH_take (i := 7) (oi := { dst := some 27, op := Op.call { callee := Callee.builtin Builtin.len, args := #[Operand.tmp 26], argTypes := #[23] }, type := 3, pos := "value.go:29", after := #[{ on := 6, ground := Ground.data }], guard := none }) (v := ?vq7_31) rfl (by kernel_rfl) (by kernel_rfl) (by kernel_rfl) (fun _ _ _ h => h) (Or.inl ⟨by rfl, ?hq7_31⟩) (by assumption) ?_
      case hq7_31 => intro w hSw; (try dsimp only at hSw); go_simp; try (with_reducible rfl)
      (try simp only [Act.put, qA, qB, qC])
      refine wpAnyH_ready (rs := [8]) (by kernel_rfl) (by simp) ?_
      refine AllReadyH.cons (o := { dst := some 28, op := Op.call { callee := Callee.value (Operand.func 84), args := #[Operand.tmp 21, Operand.tmp 27, Operand.const (Value.int IntKind.i64 71)], argTypes := #[3, 3, 47] }, type := 47, pos := "value.go:29", after := #[{ on := 1, ground := Ground.data }, { on := 7, ground := Ground.data }], guard := none }) rfl (fun K hK => ?_) AllReadyH.nil
      go_simp
      refine (HF2.out _).mono ?_
      rintro e w9 ⟨rfl, rfl⟩
      refine hK.out _ _ hSS (fun hHeld => ?_)
      clear hK K
      (try simp only [Act.put, qA, qB, qC])
      refine wpAnyH_take (i := 9) (oi := { dst := some 4, op := Op.assign (Operand.tmp 28), type := 47, pos := "value.go:29", after := #[{ on := 8, ground := Ground.data }, { on := 8, ground := Ground.chain }, { on := 0, ground := Ground.phase }, { on := 1, ground := Ground.phase }, { on := 2, ground := Ground.phase }, { on := 3, ground := Ground.phase }, { on := 4, ground := Ground.phase }, { on := 5, ground := Ground.phase }, { on := 6, ground := Ground.phase }, { on := 7, ground := Ground.phase }, { on := 8, ground := Ground.phase }], guard := none }) (v := ?vq9_32) rfl (by kernel_rfl) (by kernel_rfl) (by kernel_rfl) (fun _ _ _ h => h) (Or.inl ⟨by rfl, ?hq9_32⟩) (by assumption) ?_
      case hq9_32 => intro w hSw; (try dsimp only at hSw); go_simp; try (with_reducible rfl)
      (try simp only [Act.put, qA, qB, qC])
      refine wpAnyH_done (by kernel_rfl) ?_ _
      go_wp2
      go_ret
      exact ⟨by simp [e1, e2], HB.out.drew⟩
    | false =>
      cases e3 : (k == 12) with
      | true =>
        have hSS := And.intro y4 z2
        go_upto_region 7 with fail
        refine wp_region_held_drew (S := (fun w' => w'.cell? ⟨N, 4, none⟩ = some (.int .i64 which) ∧ w'.cell? ⟨v, 2, none⟩ = some (.slice o3 n3 c3))) (by kernel_rfl) ?_ (fun hHeld => ?_)
        · exact hSS
        refine wpAnyH_take (i := 0) (oi := { dst := some 31, op := Op.fieldAddr 37 (Operand.tmp 3) 3, type := 0, pos := "value.go:31", after := #[], guard := none }) (v := ?vq0_33) rfl (by kernel_rfl) (by kernel_rfl) (by kernel_rfl) (fun _ _ _ h => h) (Or.inl ⟨by rfl, ?hq0_33⟩) (by assumption) ?_
        case hq0_33 => intro w hSw; (try dsimp only at hSw); go_simp; try (with_reducible rfl)
        (try simp only [Act.put, qA, qB, qC])
        refine wpAnyH_take (i := 1) (oi := { dst := some 32, op := Op.load 3 (Operand.tmp 31), type := 3, pos := "value.go:31", after := #[{ on := 0, ground := Ground.data }], guard := none }) (v := ?vq1_34) rfl (by kernel_rfl) (by kernel_rfl) (by kernel_rfl) (fun _ _ _ h => h) (Or.inl ⟨by rfl, ?hq1_34⟩) (by assumption) ?_
        case hq1_34 => intro w hSw; (try dsimp only at hSw); go_simp; try (with_reducible rfl)
        (try simp only [Act.put, qA, qB, qC])
        refine wpAnyH_take (i := 2) (oi := { dst := some 33, op := Op.move (Operand.tmp 0), type := 85, pos := "value.go:31", after := #[], guard := none }) (v := ?vq2_35) rfl (by kernel_rfl) (by kernel_rfl) (by kernel_rfl) (fun _ _ _ h => h) (Or.inl ⟨by rfl, ?hq2_35⟩) (by assumption) ?_
        case hq2_35 => intro w hSw; (try dsimp only at hSw); go_simp; try (with_reducible rfl)
        (try simp only [Act.put, qA, qB, qC])
        refine wpAnyH_take (i := 3) (oi := { dst := some 34, op := Op.nilCheck (Operand.tmp 33), type := 0, pos := "value.go:31", after := #[{ on := 2, ground := Ground.data }], guard := none }) (v := ?vq3_36) rfl (by kernel_rfl) (by kernel_rfl) (by kernel_rfl) (fun _ _ _ h => h) (Or.inl ⟨by rfl, ?hq3_36⟩) (by assumption) ?_
        case hq3_36 => intro w hSw; (try dsimp only at hSw); go_simp; try (with_reducible rfl)
        (try simp only [Act.put, qA, qB, qC])
        refine wpAnyH_take (i := 4) (oi := { dst := some 35, op := Op.fieldAddr 87 (Operand.tmp 34) 0, type := 0, pos := "value.go:31", after := #[{ on := 3, ground := Ground.data }], guard := none }) (v := ?vq4_37) rfl (by kernel_rfl) (by kernel_rfl) (by kernel_rfl) (fun _ _ _ h => h) (Or.inl ⟨by rfl, ?hq4_37⟩) (by assumption) ?_
        case hq4_37 => intro w hSw; (try dsimp only at hSw); go_simp; try (with_reducible rfl)
        (try simp only [Act.put, qA, qB, qC])
        refine wpAnyH_take (i := 5) (oi := { dst := some 36, op := Op.fieldAddr 26 (Operand.tmp 35) 2, type := 0, pos := "value.go:31", after := #[{ on := 4, ground := Ground.data }], guard := none }) (v := ?vq5_38) rfl (by kernel_rfl) (by kernel_rfl) (by kernel_rfl) (fun _ _ _ h => h) (Or.inl ⟨by rfl, ?hq5_38⟩) (by assumption) ?_
        case hq5_38 => intro w hSw; (try dsimp only at hSw); go_simp; try (with_reducible rfl)
        (try simp only [Act.put, qA, qB, qC])
        refine wpAnyH_take (i := 6) (oi := { dst := some 37, op := Op.load 24 (Operand.tmp 36), type := 24, pos := "value.go:31", after := #[{ on := 5, ground := Ground.data }], guard := none }) (v := ?vq6_39) rfl (by kernel_rfl) (by kernel_rfl) (by kernel_rfl) (fun _ _ _ h => h) (Or.inl ⟨by rfl, ?hq6_39⟩) (by assumption) ?_
        case hq6_39 => intro w hSw; (try dsimp only at hSw); go_simp; try (with_reducible rfl)
        (try simp only [Act.put, qA, qB, qC])
        refine wpAnyH_take (i := 7) (oi := { dst := some 38, op := Op.call { callee := Callee.builtin Builtin.len, args := #[Operand.tmp 37], argTypes := #[24] }, type := 3, pos := "value.go:31", after := #[{ on := 6, ground := Ground.data }], guard := none }) (v := ?vq7_40) rfl (by kernel_rfl) (by kernel_rfl) (by kernel_rfl) (fun _ _ _ h => h) (Or.inl ⟨by rfl, ?hq7_40⟩) (by assumption) ?_
        case hq7_40 => intro w hSw; (try dsimp only at hSw); go_simp; try (with_reducible rfl)
        (try simp only [Act.put, qA, qB, qC])
        refine wpAnyH_ready (rs := [8]) (by kernel_rfl) (by simp) ?_
        refine AllReadyH.cons (o := { dst := some 39, op := Op.call { callee := Callee.value (Operand.func 84), args := #[Operand.tmp 32, Operand.tmp 38, Operand.const (Value.int IntKind.i64 71)], argTypes := #[3, 3, 47] }, type := 47, pos := "value.go:31", after := #[{ on := 1, ground := Ground.data }, { on := 7, ground := Ground.data }], guard := none }) rfl (fun K hK => ?_) AllReadyH.nil
        go_simp
        refine (HF3.out _).mono ?_
        rintro e w9 ⟨rfl, rfl⟩
        refine hK.out _ _ hSS (fun hHeld => ?_)
        clear hK K
        (try simp only [Act.put, qA, qB, qC])
        refine wpAnyH_take (i := 9) (oi := { dst := some 4, op := Op.assign (Operand.tmp 39), type := 47, pos := "value.go:31", after := #[{ on := 8, ground := Ground.data }, { on := 8, ground := Ground.chain }, { on := 0, ground := Ground.phase }, { on := 1, ground := Ground.phase }, { on := 2, ground := Ground.phase }, { on := 3, ground := Ground.phase }, { on := 4, ground := Ground.phase }, { on := 5, ground := Ground.phase }, { on := 6, ground := Ground.phase }, { on := 7, ground := Ground.phase }, { on := 8, ground := Ground.phase }], guard := none }) (v := ?vq9_41) rfl (by kernel_rfl) (by kernel_rfl) (by kernel_rfl) (fun _ _ _ h => h) (Or.inl ⟨by rfl, ?hq9_41⟩) (by assumption) ?_
        case hq9_41 => intro w hSw; (try dsimp only at hSw); go_simp; try (with_reducible rfl)
        (try simp only [Act.put, qA, qB, qC])
        refine wpAnyH_done (by kernel_rfl) ?_ _
        go_wp2
        go_ret
        exact ⟨by simp [e1, e2, e3], HB.out.drew⟩
      | false =>
        go_wp2_with (go_at_call 84; refine (HF4.out _).mono ?_; rintro e w9 ⟨rfl, rfl⟩)
        go_ret
        exact ⟨by simp [e1, e2, e3], HB.out⟩

def tagR (s : So5) (x : Va) : Int := cond (x.k == 11) (if plB x.tag (((s.enums[x.which.toNat]?).elim 0 (fun y => y.vars.length) : Nat) : Int) then 0 else 83) (if plB x.tag 1 then 0 else 80)
set_option maxRecDepth 100000 in
set_option maxHeartbeats 4000000 in
theorem tag_any (n : Nat) (s : So5) (b : Bo) (v : Nat) (x : Va) (w : World) (hs : SoH n w s) (hv : ViewAt w v s b) (hw : x.k = 11 → plB x.which s.enums.length = true) :
    Calls Tryz.prog 54 #[.pointer (some ⟨v, 0, none⟩), vaV x] w fun e w' => e = .returned (.int .i64 (tagR s x)) ∧ Below w.heap.size w w' := by
  obtain ⟨k, hu, uses, ⟨loc, h, path⟩, which, tag⟩ := x
  simp only [vaV, vaC, spC, List.cons_append, List.nil_append, tagR]
  obtain ⟨n1, hn1⟩ : ∃ k, s.structs.length = k := ⟨_, rfl⟩
  obtain ⟨n2, hn2⟩ : ∃ k, s.enums.length = k := ⟨_, rfl⟩
  obtain ⟨n3, hn3⟩ : ∃ k, s.fns.length = k := ⟨_, rfl⟩
  obtain ⟨o1, c1, hh1⟩ : ∃ o c, s.hs = ⟨o, c⟩ := ⟨_, _, rfl⟩
  obtain ⟨o2, c2, hh2⟩ : ∃ o c, s.he = ⟨o, c⟩ := ⟨_, _, rfl⟩
  obtain ⟨o3, c3, hh3⟩ : ∃ o c, s.hf = ⟨o, c⟩ := ⟨_, _, rfl⟩
  unfold ViewAt at hv
  simp only [hh1, hh2, hh3, hn1, hn2, hn3] at hv ⊢
  obtain ⟨W0, hW⟩ : ∃ W, W = w.alloc (.cells #[.int .i64 k, .slice hu.oa uses.length hu.cap, .int .i64 loc, .slice h.oa path.length h.cap, .int .i64 which, .int .i64 tag] 37) := ⟨_, rfl⟩
  have hb0 : Below w.heap.size w W0 := by rw [hW]; exact alloc_below _ _
  have hx0 : W0.heap[w.heap.size]? = some (.cells #[.int .i64 k, .slice hu.oa uses.length hu.cap, .int .i64 loc, .slice h.oa path.length h.cap, .int .i64 which, .int .i64 tag] 37) := by rw [hW]; exact heap_alloc_new _ _
  have hv0 := (hb0.block v (blk_lt hv)).trans hv
  obtain ⟨N, hN⟩ : ∃ N, N = w.heap.size := ⟨_, rfl⟩
  rw [← hN] at hx0
  have HB := Lib.hid hb0
  have y0 : W0.cell? ⟨N, 0, none⟩ = some (.int .i64 k) := by simp only [World.cell?, hx0]; rfl
  have y4 : W0.cell? ⟨N, 4, none⟩ = some (.int .i64 which) := by simp only [World.cell?, hx0]; rfl
  have y5 : W0.cell? ⟨N, 5, none⟩ = some (.int .i64 tag) := by simp only [World.cell?, hx0]; rfl
  have z0 : W0.cell? ⟨v, 0, none⟩ = some (.slice o1 n1 c1) := by simp only [World.cell?, hv0]; rfl
  have z1 : W0.cell? ⟨v, 1, none⟩ = some (.slice o2 n2 c2) := by simp only [World.cell?, hv0]; rfl
  have z2 : W0.cell? ⟨v, 2, none⟩ = some (.slice o3 n3 c3) := by simp only [World.cell?, hv0]; rfl
  have HS := Lib.hid hs.2.1
  have hf4 := fun W => found_any tag 1 80 W
  obtain ⟨R4, hR4⟩ : ∃ R, (if plB tag 1 then (0 : Int) else 80) = R := ⟨_, rfl⟩
  rw [hR4] at hf4
  rw [hR4]
  have HF4 := Lib.hid hf4
  have HH := Lib.hid (And.intro hn2 hh2)
  clear hf4 hR4
  obtain ⟨NV, hNV⟩ : ∃ z : Nat, (s.enums[which.toNat]?).elim 0 (fun y => y.vars.length) = z := ⟨_, rfl⟩
  rw [hNV]
  have hf1 := fun W => found_any tag NV 83 W
  obtain ⟨R1, hR1⟩ : ∃ R, (if plB tag (NV : Int) then (0 : Int) else 83) = R := ⟨_, rfl⟩
  rw [hR1] at hf1 ⊢
  have HF1 := Lib.hid hf1
  have HNV := Lib.hid hNV
  clear hf1 hR1 hNV
  dsimp only at hw
  rw [hn2] at hw
  have HWW := Lib.hid hw
  clear hv hb0 hx0 hv0 hn1 hn2 hn3 hh1 hh2 hh3 hs hw
  go_enter Tryz.func54, Tryz.ntmps54
  go_upto_region 1 with fail
  rw [← hW]
  clear hW
  try simp only [← hN]
  clear hN
  cases e1 : (k == 11) with
  | false =>
    go_wp2_with (go_at_call 84; refine (HF4.out _).mono ?_; rintro e w9 ⟨rfl, rfl⟩)
    go_ret
    exact ⟨by simp [e1], HB.out⟩
  | true =>
    have hwp := HWW.out (by simpa using e1)
    obtain ⟨p, rfl⟩ : ∃ p : Nat, which = p := ⟨which.toNat, by simp [plB] at hwp; omega⟩
    have hpn : p < n2 := by simp [plB] at hwp; omega
    obtain ⟨hn2, hh2⟩ := HH.out
    have hpe : p < s.enums.length := by omega
    obtain ⟨be, oe, hoe, hbe, hce⟩ := HS.out.2.2.1 (by omega)
    have ge : w.cell? ⟨be, oe + p * 3 + 1, none⟩ = some (.slice (s.enums[p]'hpe).h.oa (s.enums[p]'hpe).vars.length (s.enums[p]'hpe).h.cap) := hce p _ (List.getElem?_eq_getElem hpe) 1 _ rfl
    have g1 := (HB.out.cell (p := ⟨be, oe + p * 3 + 1, none⟩) (World.block_lt_of_cell? w _ ge)).trans ge
    rw [hh2] at hoe
    dsimp only at hoe
    subst hoe
    have hnv : (s.enums[p]'hpe).vars.length = NV := by
      have h := HNV.out
      rw [Int.toNat_natCast, List.getElem?_eq_getElem hpe, Option.elim_some] at h
      exact h
    obtain ⟨ov, hov⟩ : ∃ k, (s.enums[p]'hpe).h.oa = k := ⟨_, rfl⟩
    obtain ⟨cv, hcv⟩ : ∃ k, (s.enums[p]'hpe).h.cap = k := ⟨_, rfl⟩
    rw [hnv, hov, hcv] at g1
    have hSS := And.intro y5 (And.intro z1 (And.intro y4 g1))
    clear hwp hn2 hh2 hce hbe ge hnv hov hcv z0 z2
    go_upto_region 2 with fail
    refine wp_region_held_drew (S := (fun w' => w'.cell? ⟨N, 5, none⟩ = some (.int .i64 tag) ∧ w'.cell? ⟨v, 1, none⟩ = some (.slice (some ⟨be, oe, none⟩) n2 c2) ∧ w'.cell? ⟨N, 4, none⟩ = some (.int .i64 (p : Int)) ∧ w'.cell? ⟨be, oe + p * 3 + 1, none⟩ = some (.slice ov NV cv))) (by kernel_rfl) ?_ (fun hHeld => ?_)
    · exact hSS
    refine wpAnyH_take (i := 0) (oi := { dst := some 8, op := Op.fieldAddr 37 (Operand.tmp 3) 4, type := 0, pos := "value.go:39", after := #[], guard := none }) (v := ?vq0_1) rfl (by kernel_rfl) (by kernel_rfl) (by kernel_rfl) (fun _ _ _ h => h) (Or.inl ⟨by rfl, ?hq0_1⟩) (by assumption) ?_
    case hq0_1 => intro w hSw; (try dsimp only at hSw); go_simp; try (with_reducible rfl)
    (try simp only [Act.put, qA, qB, qC])
    refine wpAnyH_take (i := 1) (oi := { dst := some 9, op := Op.load 3 (Operand.tmp 8), type := 3, pos := "value.go:39", after := #[{ on := 0, ground := Ground.data }], guard := none }) (v := ?vq1_2) rfl (by kernel_rfl) (by kernel_rfl) (by kernel_rfl) (fun _ _ _ h => h) (Or.inl ⟨by rfl, ?hq1_2⟩) (by assumption) ?_
    case hq1_2 => intro w hSw; (try dsimp only at hSw); go_simp; try (with_reducible rfl)
    (try simp only [Act.put, qA, qB, qC])
    refine wpAnyH_take (i := 2) (oi := { dst := some 10, op := Op.move (Operand.tmp 0), type := 85, pos := "value.go:39", after := #[], guard := none }) (v := ?vq2_3) rfl (by kernel_rfl) (by kernel_rfl) (by kernel_rfl) (fun _ _ _ h => h) (Or.inl ⟨by rfl, ?hq2_3⟩) (by assumption) ?_
    case hq2_3 => intro w hSw; (try dsimp only at hSw); go_simp; try (with_reducible rfl)
    (try simp only [Act.put, qA, qB, qC])
    refine wpAnyH_take (i := 3) (oi := { dst := some 11, op := Op.nilCheck (Operand.tmp 10), type := 0, pos := "value.go:39", after := #[{ on := 2, ground := Ground.data }], guard := none }) (v := ?vq3_4) rfl (by kernel_rfl) (by kernel_rfl) (by kernel_rfl) (fun _ _ _ h => h) (Or.inl ⟨by rfl, ?hq3_4⟩) (by assumption) ?_
    case hq3_4 => intro w hSw; (try dsimp only at hSw); go_simp; try (with_reducible rfl)
    (try simp only [Act.put, qA, qB, qC])
    refine wpAnyH_take (i := 4) (oi := { dst := some 12, op := Op.fieldAddr 87 (Operand.tmp 11) 0, type := 0, pos := "value.go:39", after := #[{ on := 3, ground := Ground.data }], guard := none }) (v := ?vq4_5) rfl (by kernel_rfl) (by kernel_rfl) (by kernel_rfl) (fun _ _ _ h => h) (Or.inl ⟨by rfl, ?hq4_5⟩) (by assumption) ?_
    case hq4_5 => intro w hSw; (try dsimp only at hSw); go_simp; try (with_reducible rfl)
    (try simp only [Act.put, qA, qB, qC])
    refine wpAnyH_take (i := 5) (oi := { dst := some 13, op := Op.fieldAddr 26 (Operand.tmp 12) 1, type := 0, pos := "value.go:39", after := #[{ on := 4, ground := Ground.data }], guard := none }) (v := ?vq5_6) rfl (by kernel_rfl) (by kernel_rfl) (by kernel_rfl) (fun _ _ _ h => h) (Or.inl ⟨by rfl, ?hq5_6⟩) (by assumption) ?_
    case hq5_6 => intro w hSw; (try dsimp only at hSw); go_simp; try (with_reducible rfl)
    (try simp only [Act.put, qA, qB, qC])
    refine wpAnyH_take (i := 6) (oi := { dst := some 14, op := Op.load 23 (Operand.tmp 13), type := 23, pos := "value.go:39", after := #[{ on := 5, ground := Ground.data }], guard := none }) (v := ?vq6_7) rfl (by kernel_rfl) (by kernel_rfl) (by kernel_rfl) (fun _ _ _ h => h) (Or.inl ⟨by rfl, ?hq6_7⟩) (by assumption) ?_
    case hq6_7 => intro w hSw; (try dsimp only at hSw); go_simp; try (with_reducible rfl)
    (try simp only [Act.put, qA, qB, qC])
    refine wpAnyH_take (i := 7) (oi := { dst := some 15, op := Op.fieldAddr 37 (Operand.tmp 3) 3, type := 0, pos := "value.go:39", after := #[], guard := none }) (v := ?vq7_8) rfl (by kernel_rfl) (by kernel_rfl) (by kernel_rfl) (fun _ _ _ h => h) (Or.inl ⟨by rfl, ?hq7_8⟩) (by assumption) ?_
    case hq7_8 => intro w hSw; (try dsimp only at hSw); go_simp; try (with_reducible rfl)
    (try simp only [Act.put, qA, qB, qC])
    refine wpAnyH_take (i := 8) (oi := { dst := some 16, op := Op.load 3 (Operand.tmp 15), type := 3, pos := "value.go:39", after := #[{ on := 7, ground := Ground.data }], guard := none }) (v := ?vq8_9) rfl (by kernel_rfl) (by kernel_rfl) (by kernel_rfl) (fun _ _ _ h => h) (Or.inl ⟨by rfl, ?hq8_9⟩) (by assumption) ?_
    case hq8_9 => intro w hSw; (try dsimp only at hSw); go_simp; try (with_reducible rfl)
    (try simp only [Act.put, qA, qB, qC])
    refine wpAnyH_take (i := 9) (oi := { dst := some 17, op := Op.indexAddr 23 (Operand.tmp 14) (Operand.tmp 16), type := 0, pos := "value.go:39", after := #[{ on := 6, ground := Ground.data }, { on := 8, ground := Ground.data }], guard := none }) (v := .pointer (some ⟨be, oe + p * 3, none⟩)) rfl (by kernel_rfl) (by kernel_rfl) (by kernel_rfl) (fun _ _ _ h => h) (Or.inl ⟨by rfl, ?hq9_10⟩) (by assumption) ?_
    case hq9_10 => intro w hSw; (try dsimp only at hSw); go_simp; try (intro h; exfalso; omega)
    (try simp only [Act.put, qA, qB, qC])
    refine wpAnyH_take (i := 10) (oi := { dst := some 18, op := Op.fieldAddr 74 (Operand.tmp 17) 1, type := 0, pos := "value.go:39", after := #[{ on := 9, ground := Ground.data }], guard := none }) (v := ?vq10_11) rfl (by kernel_rfl) (by kernel_rfl) (by kernel_rfl) (fun _ _ _ h => h) (Or.inl ⟨by rfl, ?hq10_11⟩) (by assumption) ?_
    case hq10_11 => intro w hSw; (try dsimp only at hSw); go_simp; try (with_reducible rfl)
    (try simp only [Act.put, qA, qB, qC])
    refine wpAnyH_take (i := 11) (oi := { dst := some 19, op := Op.load 72 (Operand.tmp 18), type := 72, pos := "value.go:39", after := #[{ on := 10, ground := Ground.data }], guard := none }) (v := ?vq11_12) rfl (by kernel_rfl) (by kernel_rfl) (by kernel_rfl) (fun _ _ _ h => h) (Or.inl ⟨by rfl, ?hq11_12⟩) (by assumption) ?_
    case hq11_12 => intro w hSw; (try dsimp only at hSw); go_simp; try (with_reducible rfl)
    (try simp only [Act.put, qA, qB, qC])
    refine wpAnyH_take (i := 12) (oi := { dst := some 20, op := Op.call { callee := Callee.builtin Builtin.len, args := #[Operand.tmp 19], argTypes := #[72] }, type := 3, pos := "value.go:39", after := #[{ on := 11, ground := Ground.data }], guard := none }) (v := ?vq12_13) rfl (by kernel_rfl) (by kernel_rfl) (by kernel_rfl) (fun _ _ _ h => h) (Or.inl ⟨by rfl, ?hq12_13⟩) (by assumption) ?_
    case hq12_13 => intro w hSw; (try dsimp only at hSw); go_simp; try (with_reducible rfl)
    (try simp only [Act.put, qA, qB, qC])
    refine wpAnyH_ready (rs := [13]) (by kernel_rfl) (by simp) ?_
    refine AllReadyH.cons (o := { dst := some 21, op := Op.call { callee := Callee.value (Operand.func 84), args := #[Operand.tmp 9, Operand.tmp 20, Operand.const (Value.int IntKind.i64 83)], argTypes := #[3, 3, 47] }, type := 47, pos := "value.go:39", after := #[{ on := 1, ground := Ground.data }, { on := 12, ground := Ground.data }], guard := none }) rfl (fun K hK => ?_) AllReadyH.nil
    go_simp
    refine (HF1.out _).mono ?_
    rintro e w9 ⟨rfl, rfl⟩
    refine hK.out _ _ hSS (fun hHeld => ?_)
    clear hK K
    (try simp only [Act.put, qA, qB, qC])
    refine wpAnyH_take (i := 14) (oi := { dst := some 4, op := Op.assign (Operand.tmp 21), type := 47, pos := "value.go:39", after := #[{ on := 13, ground := Ground.data }, { on := 13, ground := Ground.chain }, { on := 0, ground := Ground.phase }, { on := 1, ground := Ground.phase }, { on := 2, ground := Ground.phase }, { on := 3, ground := Ground.phase }, { on := 4, ground := Ground.phase }, { on := 5, ground := Ground.phase }, { on := 6, ground := Ground.phase }, { on := 7, ground := Ground.phase }, { on := 8, ground := Ground.phase }, { on := 9, ground := Ground.phase }, { on := 10, ground := Ground.phase }, { on := 11, ground := Ground.phase }, { on := 12, ground := Ground.phase }, { on := 13, ground := Ground.phase }], guard := none }) (v := ?vq14_14) rfl (by kernel_rfl) (by kernel_rfl) (by kernel_rfl) (fun _ _ _ h => h) (Or.inl ⟨by rfl, ?hq14_14⟩) (by assumption) ?_
    case hq14_14 => intro w hSw; (try dsimp only at hSw); go_simp; try (with_reducible rfl)
    (try simp only [Act.put, qA, qB, qC])
    refine wpAnyH_done (by kernel_rfl) ?_ _
    go_wp2
    go_ret
    exact ⟨by simp [e1], HB.out.drew⟩

end Go.Proofs.YtghkbihgdabamaaGreatDoor
