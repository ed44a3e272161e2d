/-
  Several texts of the proof in one: QMs, PSoV, QIntoA. No conditions of their own: each lemma states its own.
-/
import Derived.Test.YtghkbihgdabamaaGreatDoorKBModel
import Derived.Test.YtghkbihgdabamaaGreatDoorKQChain
import Derived.Test.YtghkbihgdabamaaGreatDoorKPList
import Derived.Test.YtghkbihgdabamaaGreatDoorKQRsv
namespace Go.Proofs.YtghkbihgdabamaaGreatDoor
open Go.RowKit

theorem new_cell (w : World) (Z : Array Value) (t : TypeId) {j : Nat} {v : Value} (h : Z[j]? = some v) : (w.alloc (.cells Z t)).cell? ⟨w.heap.size, j, none⟩ = some v := by
  simp only [World.cell?, heap_alloc_new]
  exact h
def noSpB (x : Sp) : Bool := (x.loc == 0) && ((x.path.length : Int) == 0)
def noUsB (x : Us) : Bool := !x.num && ((x.n == 0) && (!x.mv && noSpB x.s))
def noVaB (x : Va) : Bool := (x.k == 0) && (((x.uses.length : Int) == 0) && (noSpB x.s && ((x.which == 0) && (x.tag == 0))))
def mvOfB (x : Us) (l : Int) : Bool := !x.num && ((x.n == 0) && (x.mv && ((x.s.loc == l) && ((x.s.path.length : Int) == 0))))
def addrB (x : Ty5) : Bool := match x with | .mk k _ _ l => (k == 4 || (k == 5 || k == 6)) && ((l.length : Int) == 1)
def plB (n m : Int) : Bool := decide (0 ≤ n) && decide (n < m)
def hasSpB (k : Int) : Bool := k == 6 || (k == 7 || k == 9)
def numB (x : Ty5) : Bool := match x with | .mk k _ _ _ => k == 1
set_option maxRecDepth 100000 in
set_option maxHeartbeats 4000000 in
theorem isPlace_any (n m : Int) (w : World) : Calls Tryz.prog 48 #[.int .i64 n, .int .i64 m] w fun e w' => e = .returned (.bool (plB n m)) ∧ w' = w := by
  unfold plB
  cases e1 : decide (0 ≤ n) with
  | false =>
    go_enter Tryz.func48, Tryz.ntmps48
    go_wp2
    go_ret
    exact ⟨rfl, rfl⟩
  | true =>
    cases e2 : decide (n < m) with
    | false =>
      go_enter Tryz.func48, Tryz.ntmps48
      go_wp2
      go_ret
      exact ⟨rfl, rfl⟩
    | true =>
      go_enter Tryz.func48, Tryz.ntmps48
      go_wp2
      go_ret
      exact ⟨rfl, rfl⟩
set_option maxRecDepth 100000 in
set_option maxHeartbeats 4000000 in
theorem hasSpot_any (k : Int) (w : World) : Calls Tryz.prog 85 #[.int .i64 k] w fun e w' => e = .returned (.bool (hasSpB k)) ∧ w' = w := by
  unfold hasSpB
  cases e1 : (k == 6) with
  | true =>
    go_enter Tryz.func85, Tryz.ntmps85
    go_wp2
    go_ret
    exact ⟨rfl, rfl⟩
  | false =>
    cases e2 : (k == 7) with
    | true =>
      go_enter Tryz.func85, Tryz.ntmps85
      go_wp2
      go_ret
      exact ⟨rfl, rfl⟩
    | false =>
      cases e3 : (k == 9) with
      | true =>
        go_enter Tryz.func85, Tryz.ntmps85
        go_wp2
        go_ret
        exact ⟨rfl, rfl⟩
      | false =>
        go_enter Tryz.func85, Tryz.ntmps85
        go_wp2
        go_ret
        exact ⟨rfl, rfl⟩
set_option maxRecDepth 100000 in
set_option maxHeartbeats 4000000 in
theorem found_any (n m er : Int) (w : World) : Calls Tryz.prog 84 #[.int .i64 n, .int .i64 m, .int .i64 er] w fun e w' => e = .returned (.int .i64 (if plB n m then 0 else er)) ∧ w' = w := by
  have hp := isPlace_any n m w
  cases e1 : plB n m with
  | true =>
    rw [e1] at hp
    have HP := Lib.hid hp
    clear hp
    simp only [if_true]
    go_enter Tryz.func84, Tryz.ntmps84
    go_wp2_with (go_at_call 48; refine HP.out.mono ?_; rintro e w9 ⟨rfl, h9⟩; replace h9 := h9.symm; subst h9)
    go_ret
    exact ⟨rfl, rfl⟩
  | false =>
    rw [e1] at hp
    have HP := Lib.hid hp
    clear hp
    simp only [Bool.false_eq_true, if_false]
    go_enter Tryz.func84, Tryz.ntmps84
    go_wp2_with (go_at_call 48; refine HP.out.mono ?_; rintro e w9 ⟨rfl, h9⟩; replace h9 := h9.symm; subst h9)
    go_ret
    exact ⟨rfl, rfl⟩
set_option maxRecDepth 100000 in
set_option maxHeartbeats 4000000 in
theorem isNumber_any (x : Ty5) (w : World) : Calls Tryz.prog 58 #[tyV x] w fun e w' => e = .returned (.bool (numB x)) ∧ Below w.heap.size w w' := by
  obtain ⟨k, nm, h, l⟩ := x
  simp only [tyV, tyC, numB]
  cases e1 : (k == 1) with
  | false =>
    go_enter Tryz.func58, Tryz.ntmps58
    go_wp2
    go_ret
    exact ⟨by first | done | rfl, (Below.refl _ _).alloc (Nat.le_refl _) _⟩
  | true =>
    go_enter Tryz.func58, Tryz.ntmps58
    go_wp2
    go_ret
    exact ⟨by first | done | rfl, (Below.refl _ _).alloc (Nat.le_refl _) _⟩
set_option maxRecDepth 100000 in
set_option maxHeartbeats 4000000 in
theorem isAddress_any (x : Ty5) (w : World) : Calls Tryz.prog 81 #[tyV x] w fun e w' => e = .returned (.bool (addrB x)) ∧ Below w.heap.size w w' := by
  obtain ⟨k, nm, h, l⟩ := x
  simp only [tyV, tyC, addrB]
  cases e9 : ((l.length : Int) == 1) with
  | false =>
    cases e1 : (k == 4) with
    | true =>
      go_enter Tryz.func81, Tryz.ntmps81
      go_wp2
      go_ret
      exact ⟨by first | done | rfl, (Below.refl _ _).alloc (Nat.le_refl _) _⟩
    | false =>
      cases e2 : (k == 5) with
      | true =>
        go_enter Tryz.func81, Tryz.ntmps81
        go_wp2
        go_ret
        exact ⟨by first | done | rfl, (Below.refl _ _).alloc (Nat.le_refl _) _⟩
      | false =>
        cases e3 : (k == 6) with
        | true =>
          go_enter Tryz.func81, Tryz.ntmps81
          go_wp2
          go_ret
          exact ⟨by first | done | rfl, (Below.refl _ _).alloc (Nat.le_refl _) _⟩
        | false =>
          go_enter Tryz.func81, Tryz.ntmps81
          go_wp2
          go_ret
          exact ⟨by first | done | rfl, (Below.refl _ _).alloc (Nat.le_refl _) _⟩
  | true =>
    cases e1 : (k == 4) with
    | true =>
      go_enter Tryz.func81, Tryz.ntmps81
      go_wp2
      go_ret
      exact ⟨by first | done | rfl, (Below.refl _ _).alloc (Nat.le_refl _) _⟩
    | false =>
      cases e2 : (k == 5) with
      | true =>
        go_enter Tryz.func81, Tryz.ntmps81
        go_wp2
        go_ret
        exact ⟨by first | done | rfl, (Below.refl _ _).alloc (Nat.le_refl _) _⟩
      | false =>
        cases e3 : (k == 6) with
        | true =>
          go_enter Tryz.func81, Tryz.ntmps81
          go_wp2
          go_ret
          exact ⟨by first | done | rfl, (Below.refl _ _).alloc (Nat.le_refl _) _⟩
        | false =>
          go_enter Tryz.func81, Tryz.ntmps81
          go_wp2
          go_ret
          exact ⟨by first | done | rfl, (Below.refl _ _).alloc (Nat.le_refl _) _⟩
set_option maxRecDepth 100000 in
set_option maxHeartbeats 4000000 in
theorem isNoSpot_any (x : Sp) (w : World) : Calls Tryz.prog 86 #[spV x] w fun e w' => e = .returned (.bool (noSpB x)) ∧ Below w.heap.size w w' := by
  obtain ⟨loc, h, path⟩ := x
  simp only [spV, spC, noSpB]
  cases e1 : (loc == 0) with
  | false =>
    go_enter Tryz.func86, Tryz.ntmps86
    go_wp2
    go_ret
    exact ⟨by first | done | rfl, (Below.refl _ _).alloc (Nat.le_refl _) _⟩
  | true =>
    cases e2 : ((path.length : Int) == 0) with
    | false =>
      go_enter Tryz.func86, Tryz.ntmps86
      go_wp2
      go_ret
      exact ⟨by first | done | rfl, (Below.refl _ _).alloc (Nat.le_refl _) _⟩
    | true =>
      go_enter Tryz.func86, Tryz.ntmps86
      go_wp2
      go_ret
      exact ⟨by first | done | rfl, (Below.refl _ _).alloc (Nat.le_refl _) _⟩
set_option maxRecDepth 100000 in
set_option maxHeartbeats 4000000 in
theorem isNoUse_any (x : Us) (w : World) : Calls Tryz.prog 100 #[usV x] w fun e w' => e = .returned (.bool (noUsB x)) ∧ Below w.heap.size w w' := by
  obtain ⟨num, n, mv, ⟨loc, h, path⟩⟩ := x
  simp only [usV, usC, spC, noUsB, List.cons_append, List.nil_append]
  have hsp := fun W => isNoSpot_any ⟨loc, h, path⟩ W
  obtain ⟨B, hB⟩ : ∃ B, B = noSpB ⟨loc, h, path⟩ := ⟨_, rfl⟩
  rw [← hB]
  simp only [← hB] at hsp
  simp only [spV, spC] at hsp
  have HS := Lib.hid hsp
  clear hsp hB
  cases num with
  | true =>
    go_enter Tryz.func100, Tryz.ntmps100
    go_wp2_with (first
      | (go_at_call 86; refine (HS.out _).mono ?_; rintro e w1 ⟨rfl, hb1⟩; have B1 := Lib.hid (((Below.refl _ _).alloc (Nat.le_refl _) _).trans (hb1.mono (by simp)) : Below w.heap.size w w1); clear hb1))
    go_ret
    exact ⟨by first | done | rfl, by first | exact B1.out | exact (Below.refl _ _).alloc (Nat.le_refl _) _⟩
  | false =>
    cases e1 : (n == 0) with
    | false =>
      go_enter Tryz.func100, Tryz.ntmps100
      go_wp2_with (first
        | (go_at_call 86; refine (HS.out _).mono ?_; rintro e w1 ⟨rfl, hb1⟩; have B1 := Lib.hid (((Below.refl _ _).alloc (Nat.le_refl _) _).trans (hb1.mono (by simp)) : Below w.heap.size w w1); clear hb1))
      go_ret
      exact ⟨by first | done | rfl, by first | exact B1.out | exact (Below.refl _ _).alloc (Nat.le_refl _) _⟩
    | true =>
      cases mv with
      | true =>
        go_enter Tryz.func100, Tryz.ntmps100
        go_wp2_with (first
          | (go_at_call 86; refine (HS.out _).mono ?_; rintro e w1 ⟨rfl, hb1⟩; have B1 := Lib.hid (((Below.refl _ _).alloc (Nat.le_refl _) _).trans (hb1.mono (by simp)) : Below w.heap.size w w1); clear hb1))
        go_ret
        exact ⟨by first | done | rfl, by first | exact B1.out | exact (Below.refl _ _).alloc (Nat.le_refl _) _⟩
      | false =>
        go_enter Tryz.func100, Tryz.ntmps100
        go_wp2_with (first
          | (go_at_call 86; refine (HS.out _).mono ?_; rintro e w1 ⟨rfl, hb1⟩; have B1 := Lib.hid (((Below.refl _ _).alloc (Nat.le_refl _) _).trans (hb1.mono (by simp)) : Below w.heap.size w w1); clear hb1))
        go_ret
        exact ⟨by first | done | rfl, by first | exact B1.out | exact (Below.refl _ _).alloc (Nat.le_refl _) _⟩
set_option maxRecDepth 100000 in
set_option maxHeartbeats 4000000 in
theorem isNoValue_any (x : Va) (w : World) : Calls Tryz.prog 99 #[vaV x] w fun e w' => e = .returned (.bool (noVaB x)) ∧ Below w.heap.size w w' := by
  obtain ⟨k, hu, uses, ⟨loc, h, path⟩, which, tag⟩ := x
  simp only [vaV, vaC, spC, noVaB, List.cons_append, List.nil_append]
  have hsp := fun W => isNoSpot_any ⟨loc, h, path⟩ W
  obtain ⟨B, hB⟩ : ∃ B, B = noSpB ⟨loc, h, path⟩ := ⟨_, rfl⟩
  rw [← hB]
  simp only [← hB] at hsp
  simp only [spV, spC] at hsp
  have HS := Lib.hid hsp
  clear hsp hB
  cases e1 : (k == 0) with
  | false =>
    go_enter Tryz.func99, Tryz.ntmps99
    go_wp2_with (first
      | (go_at_call 86; refine (HS.out _).mono ?_; rintro e w1 ⟨rfl, hb1⟩; have g4 : w1.cell? ⟨w.heap.size, 4, none⟩ = some (.int .i64 which) := (hb1.cell (p := ⟨w.heap.size, 4, none⟩) (by simp)).trans (new_cell _ _ _ rfl); have g5 : w1.cell? ⟨w.heap.size, 5, none⟩ = some (.int .i64 tag) := (hb1.cell (p := ⟨w.heap.size, 5, none⟩) (by simp)).trans (new_cell _ _ _ rfl); have B1 := Lib.hid (((Below.refl _ _).alloc (Nat.le_refl _) _).trans (hb1.mono (by simp)) : Below w.heap.size w w1); clear hb1))
    go_ret
    exact ⟨by first | done | rfl, by first | exact B1.out | exact (Below.refl _ _).alloc (Nat.le_refl _) _⟩
  | true =>
    cases e2 : ((uses.length : Int) == 0) with
    | false =>
      go_enter Tryz.func99, Tryz.ntmps99
      go_wp2_with (first
        | (go_at_call 86; refine (HS.out _).mono ?_; rintro e w1 ⟨rfl, hb1⟩; have g4 : w1.cell? ⟨w.heap.size, 4, none⟩ = some (.int .i64 which) := (hb1.cell (p := ⟨w.heap.size, 4, none⟩) (by simp)).trans (new_cell _ _ _ rfl); have g5 : w1.cell? ⟨w.heap.size, 5, none⟩ = some (.int .i64 tag) := (hb1.cell (p := ⟨w.heap.size, 5, none⟩) (by simp)).trans (new_cell _ _ _ rfl); have B1 := Lib.hid (((Below.refl _ _).alloc (Nat.le_refl _) _).trans (hb1.mono (by simp)) : Below w.heap.size w w1); clear hb1))
      go_ret
      exact ⟨by first | done | rfl, by first | exact B1.out | exact (Below.refl _ _).alloc (Nat.le_refl _) _⟩
    | true =>
      cases B with
      | false =>
        go_enter Tryz.func99, Tryz.ntmps99
        go_wp2_with (first
          | (go_at_call 86; refine (HS.out _).mono ?_; rintro e w1 ⟨rfl, hb1⟩; have g4 : w1.cell? ⟨w.heap.size, 4, none⟩ = some (.int .i64 which) := (hb1.cell (p := ⟨w.heap.size, 4, none⟩) (by simp)).trans (new_cell _ _ _ rfl); have g5 : w1.cell? ⟨w.heap.size, 5, none⟩ = some (.int .i64 tag) := (hb1.cell (p := ⟨w.heap.size, 5, none⟩) (by simp)).trans (new_cell _ _ _ rfl); have B1 := Lib.hid (((Below.refl _ _).alloc (Nat.le_refl _) _).trans (hb1.mono (by simp)) : Below w.heap.size w w1); clear hb1))
        go_ret
        exact ⟨by first | done | rfl, by first | exact B1.out | exact (Below.refl _ _).alloc (Nat.le_refl _) _⟩
      | true =>
        cases e4 : (which == 0) with
        | false =>
          go_enter Tryz.func99, Tryz.ntmps99
          go_wp2_with (first
            | (go_at_call 86; refine (HS.out _).mono ?_; rintro e w1 ⟨rfl, hb1⟩; have g4 : w1.cell? ⟨w.heap.size, 4, none⟩ = some (.int .i64 which) := (hb1.cell (p := ⟨w.heap.size, 4, none⟩) (by simp)).trans (new_cell _ _ _ rfl); have g5 : w1.cell? ⟨w.heap.size, 5, none⟩ = some (.int .i64 tag) := (hb1.cell (p := ⟨w.heap.size, 5, none⟩) (by simp)).trans (new_cell _ _ _ rfl); have B1 := Lib.hid (((Below.refl _ _).alloc (Nat.le_refl _) _).trans (hb1.mono (by simp)) : Below w.heap.size w w1); clear hb1))
          go_ret
          exact ⟨by first | done | rfl, by first | exact B1.out | exact (Below.refl _ _).alloc (Nat.le_refl _) _⟩
        | true =>
          cases e5 : (tag == 0) with
          | false =>
            go_enter Tryz.func99, Tryz.ntmps99
            go_wp2_with (first
              | (go_at_call 86; refine (HS.out _).mono ?_; rintro e w1 ⟨rfl, hb1⟩; have g4 : w1.cell? ⟨w.heap.size, 4, none⟩ = some (.int .i64 which) := (hb1.cell (p := ⟨w.heap.size, 4, none⟩) (by simp)).trans (new_cell _ _ _ rfl); have g5 : w1.cell? ⟨w.heap.size, 5, none⟩ = some (.int .i64 tag) := (hb1.cell (p := ⟨w.heap.size, 5, none⟩) (by simp)).trans (new_cell _ _ _ rfl); have B1 := Lib.hid (((Below.refl _ _).alloc (Nat.le_refl _) _).trans (hb1.mono (by simp)) : Below w.heap.size w w1); clear hb1))
            go_ret
            exact ⟨by first | done | rfl, by first | exact B1.out | exact (Below.refl _ _).alloc (Nat.le_refl _) _⟩
          | true =>
            go_enter Tryz.func99, Tryz.ntmps99
            go_wp2_with (first
              | (go_at_call 86; refine (HS.out _).mono ?_; rintro e w1 ⟨rfl, hb1⟩; have g4 : w1.cell? ⟨w.heap.size, 4, none⟩ = some (.int .i64 which) := (hb1.cell (p := ⟨w.heap.size, 4, none⟩) (by simp)).trans (new_cell _ _ _ rfl); have g5 : w1.cell? ⟨w.heap.size, 5, none⟩ = some (.int .i64 tag) := (hb1.cell (p := ⟨w.heap.size, 5, none⟩) (by simp)).trans (new_cell _ _ _ rfl); have B1 := Lib.hid (((Below.refl _ _).alloc (Nat.le_refl _) _).trans (hb1.mono (by simp)) : Below w.heap.size w w1); clear hb1))
            go_ret
            exact ⟨by first | done | rfl, by first | exact B1.out | exact (Below.refl _ _).alloc (Nat.le_refl _) _⟩
set_option maxRecDepth 100000 in
set_option maxHeartbeats 4000000 in
theorem isMoveOf_any (x : Us) (l : Int) (w : World) : Calls Tryz.prog 102 #[usV x, .int .i64 l] w fun e w' => e = .returned (.bool (mvOfB x l)) ∧ Below w.heap.size w w' := by
  obtain ⟨num, n, mv, ⟨loc, h, path⟩⟩ := x
  simp only [usV, usC, spC, mvOfB, List.cons_append, List.nil_append]
  cases num with
  | true =>
    go_enter Tryz.func102, Tryz.ntmps102
    go_wp2
    go_ret
    exact ⟨by first | done | rfl, (Below.refl _ _).alloc (Nat.le_refl _) _⟩
  | false =>
    cases e1 : (n == 0) with
    | false =>
      go_enter Tryz.func102, Tryz.ntmps102
      go_wp2
      go_ret
      exact ⟨by first | done | rfl, (Below.refl _ _).alloc (Nat.le_refl _) _⟩
    | true =>
      cases mv with
      | false =>
        go_enter Tryz.func102, Tryz.ntmps102
        go_wp2
        go_ret
        exact ⟨by first | done | rfl, (Below.refl _ _).alloc (Nat.le_refl _) _⟩
      | true =>
        cases e3 : (loc == l) with
        | false =>
          go_enter Tryz.func102, Tryz.ntmps102
          go_wp2
          go_ret
          exact ⟨by first | done | rfl, (Below.refl _ _).alloc (Nat.le_refl _) _⟩
        | true =>
          cases e4 : ((path.length : Int) == 0) with
          | false =>
            go_enter Tryz.func102, Tryz.ntmps102
            go_wp2
            go_ret
            exact ⟨by first | done | rfl, (Below.refl _ _).alloc (Nat.le_refl _) _⟩
          | true =>
            go_enter Tryz.func102, Tryz.ntmps102
            go_wp2
            go_ret
            exact ⟨by first | done | rfl, (Below.refl _ _).alloc (Nat.le_refl _) _⟩
set_option maxRecDepth 100000 in
set_option maxHeartbeats 4000000 in
theorem mkind_any (x : Va) (w : World) : Calls Tryz.prog 55 #[vaV x] w fun e w' => e = .returned (.int .i64 (if decide (x.k < 0) || decide (x.k ≥ 13) then 80 else 0)) ∧ Below w.heap.size w w' := by
  obtain ⟨k, hu, uses, ⟨loc, h, path⟩, which, tag⟩ := x
  simp only [vaV, vaC, spC, List.cons_append, List.nil_append]
  cases e1 : decide (k < 0) with
  | true =>
    go_enter Tryz.func55, Tryz.ntmps55
    go_wp2
    go_ret
    exact ⟨by first | done | rfl, (Below.refl _ _).alloc (Nat.le_refl _) _⟩
  | false =>
    cases e2 : decide (k ≥ 13) with
    | true =>
      go_enter Tryz.func55, Tryz.ntmps55
      go_wp2
      go_ret
      exact ⟨by first | done | rfl, (Below.refl _ _).alloc (Nat.le_refl _) _⟩
    | false =>
      go_enter Tryz.func55, Tryz.ntmps55
      go_wp2
      go_ret
      exact ⟨by first | done | rfl, (Below.refl _ _).alloc (Nat.le_refl _) _⟩

end Go.Proofs.YtghkbihgdabamaaGreatDoor

namespace Go.Proofs.YtghkbihgdabamaaGreatDoor
open Go.RowKit

/-- the world with some blocks alone -/
def ebp (w : World) (f : Nat → Bool) : World := { w with heap := w.heap.mapIdx fun i o => if f i = true then o else .cells #[] 0 }
theorem ebp_heap {w : World} {f : Nat → Bool} {b : Nat} (h : f b = true) : (ebp w f).heap[b]? = w.heap[b]? := by
  simp only [ebp, Array.getElem?_mapIdx]
  cases w.heap[b]? with
  | none => rfl
  | some o => simp [h]
theorem ebp_none {w : World} {f : Nat → Bool} {p : Addr} (h : ¬ f p.block = true) : (ebp w f).cell? p = none := by
  unfold World.cell?
  simp only [ebp, Array.getElem?_mapIdx]
  cases w.heap[p.block]? with
  | none => rfl
  | some o =>
    rw [Option.map_some, if_neg h]
    cases p with
    | mk blk off bytes => cases bytes <;> simp
theorem ebp_cell {w : World} {f : Nat → Bool} {p : Addr} {v : Value} (h : (ebp w f).cell? p = some v) : f p.block = true ∧ w.cell? p = some v := by
  by_cases hc : f p.block = true
  · exact ⟨hc, by rw [← h]; exact (World.cell?_of_block (ebp_heap hc)).symm⟩
  · rw [ebp_none hc] at h; cases h
theorem ebp_size (w : World) (f : Nat → Bool) : (ebp w f).heap.size = w.heap.size := by simp [ebp]
theorem ebp_und {w w' : World} {f f' : Nat → Bool} (hs : w.heap.size ≤ w'.heap.size) (h : ∀ b, b < w.heap.size → f b = true → f' b = true ∧ w'.heap[b]? = w.heap[b]?) : Und (ebp w f) (ebp w' f') := by
  refine ⟨by rw [ebp_size, ebp_size]; exact hs, fun p v hv => ?_⟩
  obtain ⟨h1, h3⟩ := ebp_cell hv
  obtain ⟨h4, h6⟩ := h p.block (World.block_lt_of_cell? w p h3) h1
  exact (World.cell?_of_block (ebp_heap h4)).trans ((World.cell?_of_block h6).trans h3)
theorem eb_ebp (w : World) (B : Nat) (og : Option Nat) : eb w B og = ebp w (fun i => decide (B ≤ i ∧ og ≠ some i)) := by
  unfold eb ebp
  simp
def keepF (B : Nat) (vs ve vf : Value) : Nat → Bool := fun i => decide (B ≤ i ∧ vs.ownBlock ≠ some i ∧ ve.ownBlock ≠ some i ∧ vf.ownBlock ≠ some i)
structure SoV (w : World) (B : Nat) (vs ve vf : Value) (ss : List Su5) (es : List En5) (fs : List Fn5) : Prop where
  o1 : w.ownsRow B 71 4 vs ss.length (ss.flatMap suC)
  o2 : w.ownsRow B 74 3 ve es.length (es.flatMap enC)
  o3 : w.ownsRow B 79 4 vf fs.length (fs.flatMap fnC)
  a1 : ∀ x ∈ ss, SuH 62 (ebp w (keepF B vs ve vf)) x
  a2 : ∀ x ∈ es, EnH 62 (ebp w (keepF B vs ve vf)) x
  a3 : ∀ x ∈ fs, FnH 181 (ebp w (keepF B vs ve vf)) x
section
variable {w w' : World} {B : Nat} {vs ve vf v' : Value} {ss : List Su5} {es : List En5} {fs : List Fn5}
theorem SoV.nil (w : World) (B : Nat) : SoV w B (.slice none 0 0) (.slice none 0 0) (.slice none 0 0) [] [] [] :=
  ⟨World.ownsRow_nil _ _ _ _, World.ownsRow_nil _ _ _ _, World.ownsRow_nil _ _ _ _, fun _ h => (by cases h), fun _ h => (by cases h), fun _ h => (by cases h)⟩
theorem SoV.keep (h : SoV w B vs ve vf ss es fs) (hs : w.heap.size ≤ w'.heap.size) (hk : ∀ x, B ≤ x → x < w.heap.size → w'.heap[x]? = w.heap[x]?) : SoV w' B vs ve vf ss es fs := by
  have hu : Und (ebp w (keepF B vs ve vf)) (ebp w' (keepF B vs ve vf)) := ebp_und hs fun b hb hf => ⟨hf, hk b (by simp [keepF] at hf; exact hf.1) hb⟩
  exact ⟨own_keep h.o1 fun x hx => hk x (own_lt h.o1 hx).1 (own_lt h.o1 hx).2, own_keep h.o2 fun x hx => hk x (own_lt h.o2 hx).1 (own_lt h.o2 hx).2, own_keep h.o3 fun x hx => hk x (own_lt h.o3 hx).1 (own_lt h.o3 hx).2,
    fun x hx => SuH.und 62 _ _ x hu (h.a1 x hx), fun x hx => EnH.und 62 _ _ x hu (h.a2 x hx), fun x hx => FnH.und 181 _ _ x hu (h.a3 x hx)⟩
theorem SoV.rows (h : SoV w B vs ve vf ss es fs) : VRow 4 suC erSu (SuH 62) w B vs (ss.map erSu) ∧ VRow 3 enC erEn (EnH 62) w B ve (es.map erEn) ∧ VRow 4 fnC erFn (FnH 181) w B vf (fs.map erFn) := by
  refine ⟨RowV.row ⟨h.o1, fun x hx => ?_⟩ suC_len (SuH.und 62) erSu, RowV.row ⟨h.o2, fun x hx => ?_⟩ enC_len (EnH.und 62) erEn, RowV.row ⟨h.o3, fun x hx => ?_⟩ fnC_len (FnH.und 181) erFn⟩
  · refine SuH.und 62 _ _ x ?_ (h.a1 x hx)
    rw [eb_ebp]
    exact ebp_und (Nat.le_refl _) fun b _ hf => by simp [keepF] at hf; simp [hf]
  · refine EnH.und 62 _ _ x ?_ (h.a2 x hx)
    rw [eb_ebp]
    exact ebp_und (Nat.le_refl _) fun b _ hf => by simp [keepF] at hf; simp [hf]
  · refine FnH.und 181 _ _ x ?_ (h.a3 x hx)
    rw [eb_ebp]
    exact ebp_und (Nat.le_refl _) fun b _ hf => by simp [keepF] at hf; simp [hf]
end
end Go.Proofs.YtghkbihgdabamaaGreatDoor

namespace Go.Proofs.YtghkbihgdabamaaGreatDoor
open Go.RowKit

theorem ebp_all (w : World) (kf : Nat → Bool) : Und (ebp w kf) w := ⟨by rw [ebp_size]; exact Nat.le_refl _, fun _ _ hv => (ebp_cell hv).2⟩
theorem ebp_below {w w' : World} (h : Below w.heap.size w w') (kf : Nat → Bool) : Und (ebp w kf) (ebp w' kf) := ebp_und h.size fun b hb hk => ⟨hk, h.block b hb⟩
theorem eb_kf {w w' : World} {B : Nat} {kf : Nat → Bool} (hs : w.heap.size ≤ w'.heap.size) (hk : ∀ b, B ≤ b → kf b = true) (h : ∀ b, b < w.heap.size → B ≤ b → w'.heap[b]? = w.heap[b]?) : Und (eb w B none) (ebp w' kf) := by
  rw [eb_ebp]
  refine ebp_und hs fun b hb hf => ?_
  have h1 : B ≤ b := by simpa using hf
  exact ⟨hk b h1, h b hb h1⟩
/-- a body, and the source that it is looked at by -/
def ViewAt (w : World) (v : Nat) (s : So5) (b : Bo) : Prop := w.heap[v]? = some (.cells #[.slice s.hs.oa s.structs.length s.hs.cap, .slice s.he.oa s.enums.length s.he.cap, .slice s.hf.oa s.fns.length s.hf.cap, .string b.nm, .int .i64 b.params, .slice b.hl.oa b.locals.length b.hl.cap, .slice b.hb.oa b.blocks.length b.hb.cap] 87)
theorem ViewAt.below {w w' : World} {v : Nat} {s : So5} {b : Bo} (h : ViewAt w v s b) (hb : Below w.heap.size w w') : ViewAt w' v s b := (hb.block v (Array.getElem?_eq_some_iff.1 h).1).trans h
/-- no declared type is too large -/
def SoN (s : So5) : Prop := (∀ x ∈ s.structs, ∀ f ∈ x.fields, tyN f.ty ≤ 1000000) ∧ (∀ x ∈ s.enums, ∀ f ∈ x.vars, tyN f.ty ≤ 1000000) ∧ (∀ x ∈ s.fns, ∀ f ∈ x.params, tyN f.ty ≤ 1000000)
/-- what a step comes to -/
def fieldT (s : So5) (n : Nat) (x : Su5) (step : Int) : Option Ty5 := match x.fields[step.toNat]? with
  | some f => if (resO s n f.ty).1 = 0 then some (resO s n f.ty).2 else none
  | none => none
def intoR (s : So5) (n : Nat) : Ty5 → Int → Option Ty5
  | .mk k nm h l, step => if addrB (.mk k nm h l) then (if step = -1 then l.head?.map erTy else none)
    else if k ≠ 2 then none
    else if suAt s nm < 0 then none
    else match s.structs[(suAt s nm).toNat]? with
      | some x => if plB step x.fields.length then fieldT s n x step else none
      | none => none
set_option maxRecDepth 100000 in
set_option maxHeartbeats 40000000 in
theorem into_addr (n m : Nat) (s : So5) (b : Bo) (v : Nat) (x : Ty5) (step : Int) (w : World) (kf : Nat → Bool) (hxk : TyH m (ebp w kf) x) (ha : addrB x = true) :
    Calls Tryz.prog 49 #[.pointer (some ⟨v, 0, none⟩), tyV x, .int .i64 step] w fun e w' => Below w.heap.size w w' ∧ ∃ y ok, e = .returned (.tuple #[tyV y, .bool ok]) ∧ intoR s n x step = (if ok then some (erTy y) else none) ∧ TyH m (ebp w' kf) y := by
  have hx : TyH m w x := TyH.und m _ _ _ (ebp_all w kf) hxk
  obtain ⟨k, nm, h, l⟩ := x
  have hl1 : l.length = 1 := by
    unfold addrB at ha
    simp only [Bool.and_eq_true, beq_iff_eq] at ha
    have := ha.2
    omega
  obtain ⟨z, rfl⟩ : ∃ z, l = [z] := by
    match l, hl1 with
    | [z], _ => exact ⟨z, rfl⟩
  obtain ⟨m, rfl⟩ : ∃ m', m = m' + 1 := by
    cases m with
    | zero => exact hx.elim
    | succ m => exact ⟨m, rfl⟩
  have hz := hxk.2.2.2.2 z (by simp)
  obtain ⟨bz, oz, hoz, hbz, hcz⟩ := hx.2.2.2.1 (by simp)
  have hzc : ∀ (j : Nat) u, (tyC z)[j]? = some u → w.cell? ⟨bz, oz + j, none⟩ = some u := fun j u hu => by simpa using hcz 0 z rfl j u hu
  have hai := fun W => isAddress_any (.mk k nm h [z]) W
  rw [ha] at hai
  obtain ⟨W0, hW⟩ : ∃ W, W = (w.alloc (.cells #[.int .i64 k, .string nm, .slice h.oa 1 h.cap] 46)).alloc (.cells #[.int .i64 0, .string ⟨#[]⟩, .slice none 0 0] 46) := ⟨_, rfl⟩
  obtain ⟨hb0, hx0, hx1⟩ := pal2 w (.cells #[.int .i64 k, .string nm, .slice h.oa 1 h.cap] 46) (.cells #[.int .i64 0, .string ⟨#[]⟩, .slice none 0 0] 46)
  rw [← hW] at hb0 hx0 hx1
  have HI := Lib.hid (show intoR s n (.mk k nm h [z]) step = (if (step == -1) then some (erTy z) else none) by
    simp only [intoR]
    rw [if_pos ha]
    by_cases hs : step = -1
    · simp [hs]
    · simp [hs])
  obtain ⟨k2, nm2, h2, l2⟩ := z
  have g0 : ∀ W, Below w.heap.size w W → W.cell? ⟨bz, oz, none⟩ = some (.int .i64 k2) := fun W hW => (hW.cell (p := ⟨bz, oz, none⟩) hbz).trans (by simpa using hzc 0 _ rfl)
  have g1 : ∀ W, Below w.heap.size w W → W.cell? ⟨bz, oz + 1, none⟩ = some (.string nm2) := fun W hW => (hW.cell (p := ⟨bz, oz + 1, none⟩) hbz).trans (hzc 1 _ rfl)
  have g2 : ∀ W, Below w.heap.size w W → W.cell? ⟨bz, oz + 2, none⟩ = some (.slice h2.oa l2.length h2.cap) := fun W hW => (hW.cell (p := ⟨bz, oz + 2, none⟩) hbz).trans (hzc 2 _ rfl)
  have HZ := Lib.hid (And.intro hz (And.intro g0 (And.intro g1 g2)))
  simp only [tyV, tyC, List.length_cons, List.length_nil, Nat.zero_add] at hai ⊢
  rw [hoz] at hai hx0 hW ⊢
  have HAI := Lib.hid hai
  obtain ⟨N, hN⟩ : ∃ N, N = w.heap.size := ⟨_, rfl⟩
  rw [← hN] at hx0 hx1
  have HX := Lib.hid (And.intro hx0 hx1)
  have HN := Lib.hid hN
  have HB0 := Lib.hid hb0
  clear hai hx0 hx1 hb0 hz hzc hcz hbz hx hxk ha hl1 g0 g1 g2 hoz
  go_enter Tryz.func49, Tryz.ntmps49
  go_upto_region 1 with fail
  rw [← hW]
  clear hW
  try simp only [← hN]
  clear hN
  obtain ⟨y0, y1, y2, yf, yl⟩ := cells3p HX.out.1
  go_upto_region 2 with (go_at_call 81; refine (HAI.out W0).mono ?_; rintro e W1 ⟨rfl, hb1⟩; have HB1 := Lib.hid hb1; obtain ⟨u0, u1, u2, uf, ul⟩ := cells3p ((hb1.block N (blk_lt HX.out.1)).trans HX.out.1); clear hb1)
  clear y0 y1 y2 yf yl
  have q0 := HZ.out.2.1 W1 (HB0.out.trans (HB1.out.mono HB0.out.size))
  have q1 := HZ.out.2.2.1 W1 (HB0.out.trans (HB1.out.mono HB0.out.size))
  have q2 := HZ.out.2.2.2 W1 (HB0.out.trans (HB1.out.mono HB0.out.size))
  go_wp2_with (refine wpList_store_box rfl 46 (.tmp 6) (.tmp 16) rfl (N + 1) 0 rfl (.agg #[.int .i64 k2, .string nm2, .slice h2.oa l2.length h2.cap]) rfl [.int .i64 k2, .string nm2, .slice h2.oa l2.length h2.cap] rfl [.int .i64 0, .string ⟨#[]⟩, .slice none 0 0] 46 ((HB1.out.block (N + 1) (blk_lt HX.out.2)).trans HX.out.2) (Nat.le_refl _) (show (Tryz.prog.info? 46).map (·.size) = some 3 by kernel_rfl) ?cx1 (N + 1) (Nat.le_refl _) W1 (Below.refl _ _) ?_)
  try case cx1 => first | exact ⟨rfl, rfl, rfl⟩ | (intro v hv; simp at hv; rcases hv with rfl | rfl | rfl <;> rfl)
  intro WF hb hbx hoth
  have HF := Lib.hid (show Below w.heap.size w WF from (HB0.out.trans (HB1.out.mono HB0.out.size)).trans (hb.mono (by have := HN.out; omega)))
  obtain ⟨f0, f1, f2, ff, fl⟩ := cells3p hbx
  clear hb hbx hoth u0 u1 u2 uf ul q0 q1 q2
  cases hs : (step == -1) with
  | true =>
    go_wp2
    refine bodyPost_ret (v := .tuple #[.agg #[.int .i64 k2, .string nm2, .slice h2.oa l2.length h2.cap], .bool true]) (by simp [results, Tryz.results49, go_sem, f0, f1, f2]) rfl ⟨HF.out, .mk k2 nm2 h2 l2, true, rfl, by rw [HI.out, hs], TyH.le (Nat.le_succ _) (TyH.und _ _ _ _ (ebp_below HF.out kf) HZ.out.1)⟩
  | false =>
    go_wp2
    refine bodyPost_ret (v := .tuple #[.agg #[.int .i64 k2, .string nm2, .slice h2.oa l2.length h2.cap], .bool false]) (by simp [results, Tryz.results49, go_sem, f0, f1, f2]) rfl ⟨HF.out, .mk k2 nm2 h2 l2, false, rfl, by rw [HI.out, hs], TyH.le (Nat.le_succ _) (TyH.und _ _ _ _ (ebp_below HF.out kf) HZ.out.1)⟩

end Go.Proofs.YtghkbihgdabamaaGreatDoor
