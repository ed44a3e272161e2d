/-
  works, of the statements: the document's examples. Conditions: the package variables lie as the program's text lays them.
-/
import Derived.Test.YtgogdcpgfmndnaaGreatDoorTText
import Derived.Test.YtgogdcpgfmndnaaGreatDoorTValD
namespace Go.Proofs.YtgogdcpgfmndnaaGreatDoor
open Go.RowKit

set_option maxRecDepth 100000 in
set_option maxHeartbeats 2000000 in
theorem set_EA (w : World) : Calls Tryz.prog 19 #[.agg #[.int .i64 11, .slice none 0 0, .string ⟨#[]⟩, .slice none 0 0, .string ⟨#[69]⟩, .string ⟨#[65]⟩]] w fun e w' => e = .returned (.string ⟨#[69, 58, 58, 65]⟩) ∧ Below w.heap.size w w' := by
  have hv : ∀ W, Calls Tryz.prog 58 #[.agg #[.int .i64 11, .slice none 0 0, .string ⟨#[]⟩, .slice none 0 0, .string ⟨#[69]⟩, .string ⟨#[65]⟩]] W fun e w' => e = .returned (.string ⟨#[69, 58, 58, 65]⟩) ∧ Below W.heap.size W w' := by
    intro W
    have HB := Lib.hid (alloc_below W (.cells #[.int .i64 11, .slice none 0 0, .string ⟨#[]⟩, .slice none 0 0, .string ⟨#[69]⟩, .string ⟨#[65]⟩] 49))
    go_enter Tryz.func58, Tryz.ntmps58
    go_wp2
    go_ret
    exact ⟨by first | done | rfl, HB.out⟩
  have hvv := Lib.hid hv
  have HB := Lib.hid (alloc_below w (.cells #[.int .i64 11, .slice none 0 0, .string ⟨#[]⟩, .slice none 0 0, .string ⟨#[69]⟩, .string ⟨#[65]⟩] 49))
  clear hv
  go_enter Tryz.func19, Tryz.ntmps19
  go_wp2_with (go_at_call 58; refine (hvv.out _).mono ?_; rintro e w1 ⟨rfl, hb1⟩; have HB1 := Lib.hid (HB.out.trans (hb1.mono HB.out.size)); clear hb1)
  go_ret
  exact ⟨rfl, HB1.out⟩

theorem innermost_int (w : World) : Calls Tryz.prog 60 #[.agg #[.int .i64 1, .string ⟨#[]⟩, .slice none 0 0]] w fun e w' => e = .returned (.string ⟨#[105, 110, 116]⟩) ∧ Below w.heap.size w w' := by
  have HB := Lib.hid (alloc_below w (.cells #[.int .i64 1, .string ⟨#[]⟩, .slice none 0 0] 45))
  go_enter Tryz.func60, Tryz.ntmps60
  go_wp2
  go_ret
  exact ⟨rfl, HB.out⟩

set_option maxRecDepth 100000 in
set_option maxHeartbeats 2000000 in
theorem type_int (w : World) : Calls Tryz.prog 20 #[.agg #[.int .i64 1, .string ⟨#[]⟩, .slice none 0 0]] w fun e w' => e = .returned (.string ⟨#[105, 110, 116]⟩) ∧ Below w.heap.size w w' := by
  obtain ⟨W0, hW0⟩ : ∃ W, W = (w.alloc (.cells #[.int .i64 1, .string ⟨#[]⟩, .slice none 0 0] 45)).alloc (.cells #[.pointer none, .slice none 0 0, .int .i64 0] 96) := ⟨_, rfl⟩
  have hb0 : Below w.heap.size w W0 := by rw [hW0]; exact ((Below.refl _ _).alloc (Nat.le_refl _) _).alloc (by simp) _
  have hbx : W0.heap[w.heap.size]? = some (.cells #[.int .i64 1, .string ⟨#[]⟩, .slice none 0 0] 45) := by rw [hW0, heap_alloc_old _ _ (by simp), heap_alloc_new]
  have hI : IsB3 (.int .i64 0) w.heap.size (w.heap.size + 1) (Lib.byteCells []) W0 := by
    rw [hW0]
    refine .inl ⟨by simp, .slice none 0 0, by simpa using heap_alloc_new (w.alloc (.cells #[.int .i64 1, .string ⟨#[]⟩, .slice none 0 0] 45)) (.cells #[.pointer none, .slice none 0 0, .int .i64 0] 96), World.ownsRowF_of (World.ownsRow_nil _ _ _ _), by simp [Value.ownBlock]⟩
  have z0 : W0.cell? ⟨w.heap.size, 0, none⟩ = some (.int .i64 1) := by simp [World.cell?, hbx]
  have z1 : W0.cell? ⟨w.heap.size, 1, none⟩ = some (.string ⟨#[]⟩) := by simp [World.cell?, hbx]
  have z2 : W0.cell? ⟨w.heap.size, 2, none⟩ = some (.slice none 0 0) := by simp [World.cell?, hbx]
  have hag := Lib.hid (show ∀ w, Calls Tryz.prog 59 #[.int .i64 1] w fun e w' => e = .returned (.string ⟨#[]⟩) ∧ w' = w from around_any 1)
  have hin := Lib.hid innermost_int
  have HB0 := Lib.hid hb0
  have HI := Lib.hid hI
  clear hb0 hI hbx
  go_enter Tryz.func20, Tryz.ntmps20
  go_upto_block 0 with fail
  rw [← hW0]
  clear hW0
  go_wp2_with fail
  go_loopw [4] (fun _ wr => wr = W0) (fun _ _ => 0)
  case atStart => exact rfl
  case round =>
    obtain rfl := hrel
    go_wp2_with (first
      | (go_at_call 59; refine (hag.out _).mono ?_; rintro e w1 ⟨rfl, rfl⟩)
      | (go_at_call 60; refine (hin.out _).mono ?_; rintro e w2 ⟨rfl, hb2⟩; have H2 := Lib.hid (HI.out.below hb2); have HB2 := Lib.hid (HB0.out.trans (hb2.mono HB0.out.size)); clear hb2)
      | (go_at_call 54; refine (writeString3_any _ _ _ _ ⟨#[105, 110, 116]⟩ w2 H2.out (by decide) HB2.out.size).mono ?_; rintro e w3 ⟨rfl, h3, hb3, -⟩; have H3 := Lib.hid (show IsB3 (.int .i64 0) w.heap.size (w.heap.size + 1) (Lib.byteCells [105, 110, 116]) w3 from .inr h3); have HB3 := Lib.hid (HB2.out.trans hb3); clear h3 hb3)
      | (go_at_call 53; refine (string3_any _ _ _ [105, 110, 116] (by decide) w3 H3.out).mono ?_; rintro e w4 ⟨rfl, hb4⟩; have HB4 := Lib.hid (HB3.out.trans hb4); clear hb4))
    go_ret
    exact ⟨rfl, HB4.out⟩

/-- The document's coroutine, its statements in block b. -/
def stW : St5 := .mk 6 0 ⟨#[]⟩ tyZ plZ rvZ ⟨true, -1, plZ⟩ z0 [] z0 [] z0 []
def fnW (b : Nat) : Fn5 := ⟨⟨#[102]⟩, z0, [], ⟨some ⟨b, 0, none⟩, 1⟩, [stW], 0⟩
def soW (b : Nat) : So5 := ⟨z0, [], z0, [], ⟨some ⟨b + 1, 0, none⟩, 1⟩, [fnW b]⟩
def soZ : So5 := ⟨z0, [], z0, [], z0, []⟩
def plW (b : Nat) : Pl5 := ⟨⟨#[120]⟩, ⟨some ⟨b, 0, none⟩, 2⟩, [⟨#[]⟩, ⟨#[102]⟩]⟩

theorem row_block {α : Type} {w : World} {b sz : Nat} {l : List α} {C : α → List Value} {P : α → Prop} {t : TypeId} (hC : ∀ x, x ∈ l → (C x).length = sz) (hl : l.length ≤ 1000) (h : w.heap[b]? = some (.cells (l.flatMap C).toArray t)) (hP : ∀ x, x ∈ l → P x) : Row w ⟨some ⟨b, 0, none⟩, l.length⟩ sz l C P := by
  refine ⟨Nat.le_refl _, by show l.length ≤ maxLen; unfold maxLen; omega, fun _ => ⟨b, 0, rfl, (Array.getElem?_eq_some_iff.1 h).1, ?_⟩, hP⟩
  intro i x hx j v hv
  have hr := rangeAt_of_box h
  have key : ∀ (l : List α) (i : Nat), (∀ x, x ∈ l → (C x).length = sz) → l[i]? = some x → (l.flatMap C)[i * sz + j]? = some v := by
    intro l
    induction l with
    | nil => intro i _ h; simp at h
    | cons a l ih =>
      intro i hC h
      have hj : j < sz := by
        have hx : x ∈ a :: l := List.mem_of_getElem? h
        rw [← hC x hx]
        exact (List.getElem?_eq_some_iff.1 hv).1
      have ha := hC a (by simp)
      cases i with
      | zero =>
        simp at h
        subst h
        rw [List.flatMap_cons, Nat.zero_mul, Nat.zero_add, List.getElem?_append_left (by omega)]
        exact hv
      | succ i =>
        rw [List.flatMap_cons, List.getElem?_append_right (by rw [ha, Nat.succ_mul]; omega)]
        have e : (i + 1) * sz + j - (C a).length = i * sz + j := by rw [ha, Nat.succ_mul]; omega
        rw [e]
        exact ih i (fun x hx => hC x (by simp [hx])) (by simpa using h)
  have := hr _ v (key l i hC hx)
  simpa using this

theorem stW_H (w : World) : StH 2 w stW := ⟨⟨by decide, by decide⟩, tyZ_H 0 w, plZ_H w, rvZ_H w, ⟨⟨by decide, by decide⟩, plZ_H w⟩, nilRow _ _ _ _, nilRow _ _ _ _, nilRow _ _ _ _⟩
theorem soW_H (b : Nat) (w : World) (h1 : w.heap[b]? = some (.cells (stC stW).toArray 52)) (h2 : w.heap[b + 1]? = some (.cells (fnC (fnW b)).toArray 35)) : SoH 2 w (soW b) := by
  refine ⟨nilRow _ _ _ _, nilRow _ _ _ _, row_block (l := [fnW b]) (C := fnC) (sz := 4) (t := 35) (fun x hx => by simp at hx; subst hx; rfl) (by simp) (by simpa using h2) ?_⟩
  intro x hx
  simp at hx
  subst hx
  exact ⟨nilRow _ _ _ _, row_block (l := [stW]) (C := stC) (sz := 21) (t := 52) (fun x _ => stC_len x) (by simp) (by simpa using h1) (fun x hx => by simp at hx; subst hx; exact stW_H w)⟩
theorem soZ_H (w : World) : SoH 2 w soZ := ⟨nilRow _ _ _ _, nilRow _ _ _ _, nilRow _ _ _ _⟩
theorem soW_ok (b : Nat) : soOk (soW b) = true := by
  have : soOk (soW 0) = true := by decide +kernel
  exact this
theorem soW_same (b : Nat) : soEq (soW b) (soW b) = true := by
  have : soEq (soW 0) (soW 0) = true := by decide +kernel
  exact this
theorem soW_not (b : Nat) : soEq (soW b) soZ = false := rfl
theorem plW_T (b : Nat) : plT (plW b) = [120, 46, 42, 46, 102] := by
  have : plT (plW 0) = [120, 46, 42, 46, 102] := by decide +kernel
  exact this
theorem plW_H (b : Nat) (w : World) (h : w.heap[b]? = some (.cells #[.string ⟨#[]⟩, .string ⟨#[102]⟩] 58)) : PlH w (plW b) :=
  (row_block (w := w) (b := b) (l := ([⟨#[]⟩, ⟨#[102]⟩] : List ByteArray)) (C := stepC) (sz := 1) (t := 58) (P := fun _ => True) (fun x _ => rfl) (by simp) h (fun _ _ => trivial) : Row w ⟨some ⟨b, 0, none⟩, 2⟩ 1 ([⟨#[]⟩, ⟨#[102]⟩] : List ByteArray) stepC (fun _ => True))

def gW (tabs : Nat) (_ : St5) : List UInt8 := lineT tabs [⟨#[114, 101, 116, 117, 114, 110, 32]⟩, strB (Lib.itoa (-1)), ⟨#[59]⟩]
theorem textW (b : Nat) : (soW b).fns.flatMap (fnT gW (fun _ => ⟨#[]⟩)) = [99, 111, 32, 102, 40, 41, 32, 123, 10, 9, 114, 101, 116, 117, 114, 110, 32, 45, 49, 59, 10, 125, 10] := by
  have : (soW 0).fns.flatMap (fnT gW (fun _ => ⟨#[]⟩)) = [99, 111, 32, 102, 40, 41, 32, 123, 10, 9, 114, 101, 116, 117, 114, 110, 32, 45, 49, 59, 10, 125, 10] := by decide +kernel
  exact this
theorem text_W (b : Nat) (w : World) (hV : Vz w) (hS : SoH 2 w (soW b)) : Calls Tryz.prog 14 #[soV (soW b)] w fun e w' => e = .returned (.string ⟨#[99, 111, 32, 102, 40, 41, 32, 123, 10, 9, 114, 101, 116, 117, 114, 110, 32, 45, 49, 59, 10, 125, 10]⟩) ∧ Below w.heap.size w w' := by
  have h := textF_any gW (fun _ => ⟨#[]⟩) 2 (soW b) w rfl rfl hS (by rw [textW]; decide) (by rw [textW]; decide) ?_ ?_
  · rw [textW] at h
    exact h
  · intro f hf W hW
    simp [soW] at hf
    subst hf
    exact listFd_nil 51 W
  · intro f hf b2 x hx bs1 w1 h1 hb1 hl
    simp [soW] at hf
    subst hf
    simp [fnW] at hx
    subst hx
    exact statement_6 0 ⟨#[]⟩ 0 ⟨#[]⟩ z0 [] ⟨#[]⟩ z0 [] 0 z0 [] ⟨#[]⟩ z0 [] ⟨#[]⟩ ⟨#[]⟩ true (-1) ⟨#[]⟩ z0 [] z0 [] z0 [] z0 [] (0 + 1) w.heap.size b2 bs1 (Lib.itoa (-1)) w1 h1 hb1.size (fun W hW => oper_num (-1) ⟨by decide, by decide⟩ plZ W ((hV.b hb1).b hW)) hl

set_option maxRecDepth 100000 in
set_option maxHeartbeats 16000000 in
theorem works_any (w : World) (hV : Vz w) : Calls Tryz.prog 8 #[] w fun e w' => e = .returned (.bool true) ∧ Below w.heap.size w w' := by
  obtain ⟨W0, hW0⟩ : ∃ W, W = ((((w.alloc (.cells #[.string ⟨#[]⟩, .string ⟨#[102]⟩] 58)).alloc (.cells #[.string ⟨#[120]⟩, .slice (some ⟨w.heap.size, 0, none⟩) 2 2] 39)).alloc (.cells #[.int .i64 6, .int .i64 0, .string ⟨#[]⟩, .int .i64 0, .string ⟨#[]⟩, .slice none 0 0, .string ⟨#[]⟩, .slice none 0 0, .int .i64 0, .slice none 0 0, .string ⟨#[]⟩, .slice none 0 0, .string ⟨#[]⟩, .string ⟨#[]⟩, .bool true, .int .i64 (-1), .string ⟨#[]⟩, .slice none 0 0, .slice none 0 0, .slice none 0 0, .slice none 0 0] 52)).alloc (.cells #[.string ⟨#[102]⟩, .slice none 0 0, .slice (some ⟨w.heap.size + 1 + 1, 0, none⟩) 1 1, .int .i64 0] 35)).alloc (.cells #[.slice none 0 0, .slice none 0 0, .slice (some ⟨w.heap.size + 1 + 1 + 1, 0, none⟩) 1 1] 26) := ⟨_, rfl⟩
  have hsz : W0.heap.size = w.heap.size + 5 := by rw [hW0]; simp
  have HB0 : Below w.heap.size w W0 := by rw [hW0]; exact (((((Below.refl _ _).alloc (Nat.le_refl _) _).alloc (by simp) _).alloc (by simp; omega) _).alloc (by simp; omega) _).alloc (by simp; omega) _
  have hx0 : W0.heap[w.heap.size]? = some (.cells #[.string ⟨#[]⟩, .string ⟨#[102]⟩] 58) := by
    rw [hW0]
    rw [heap_alloc_old _ _ (by simp <;> omega), heap_alloc_old _ _ (by simp <;> omega), heap_alloc_old _ _ (by simp <;> omega), heap_alloc_old _ _ (by simp), heap_alloc_new]
  have hx1 : W0.heap[w.heap.size + 1]? = some (.cells #[.string ⟨#[120]⟩, .slice (some ⟨w.heap.size, 0, none⟩) 2 2] 39) := by
    rw [hW0]
    rw [heap_alloc_old _ _ (by simp <;> omega), heap_alloc_old _ _ (by simp <;> omega), heap_alloc_old _ _ (by simp)]
    have := heap_alloc_new (w.alloc (.cells #[.string ⟨#[]⟩, .string ⟨#[102]⟩] 58)) (.cells #[.string ⟨#[120]⟩, .slice (some ⟨w.heap.size, 0, none⟩) 2 2] 39)
    simpa using this
  have hx2 : W0.heap[w.heap.size + 2]? = some (.cells (stC stW).toArray 52) := by
    rw [hW0]
    rw [heap_alloc_old _ _ (by simp <;> omega), heap_alloc_old _ _ (by simp)]
    have := heap_alloc_new ((w.alloc (.cells #[.string ⟨#[]⟩, .string ⟨#[102]⟩] 58)).alloc (.cells #[.string ⟨#[120]⟩, .slice (some ⟨w.heap.size, 0, none⟩) 2 2] 39)) (.cells (stC stW).toArray 52)
    rw [show (((w.alloc (.cells #[.string ⟨#[]⟩, .string ⟨#[102]⟩] 58)).alloc (.cells #[.string ⟨#[120]⟩, .slice (some ⟨w.heap.size, 0, none⟩) 2 2] 39)).heap.size) = w.heap.size + 2 by simp] at this
    exact this
  have hx3 : W0.heap[w.heap.size + 2 + 1]? = some (.cells (fnC (fnW (w.heap.size + 2))).toArray 35) := by
    rw [hW0]
    rw [heap_alloc_old _ _ (by simp)]
    have := heap_alloc_new (((w.alloc (.cells #[.string ⟨#[]⟩, .string ⟨#[102]⟩] 58)).alloc (.cells #[.string ⟨#[120]⟩, .slice (some ⟨w.heap.size, 0, none⟩) 2 2] 39)).alloc (.cells (stC stW).toArray 52)) (.cells (fnC (fnW (w.heap.size + 2))).toArray 35)
    rw [show ((((w.alloc (.cells #[.string ⟨#[]⟩, .string ⟨#[102]⟩] 58)).alloc (.cells #[.string ⟨#[120]⟩, .slice (some ⟨w.heap.size, 0, none⟩) 2 2] 39)).alloc (.cells (stC stW).toArray 52)).heap.size) = w.heap.size + 2 + 1 by simp] at this
    exact this
  have hx4 : W0.heap[w.heap.size + 4]? = some (.cells #[.slice none 0 0, .slice none 0 0, .slice (some ⟨w.heap.size + 1 + 1 + 1, 0, none⟩) 1 1] 26) := by
    rw [hW0]
    have := heap_alloc_new ((((w.alloc (.cells #[.string ⟨#[]⟩, .string ⟨#[102]⟩] 58)).alloc (.cells #[.string ⟨#[120]⟩, .slice (some ⟨w.heap.size, 0, none⟩) 2 2] 39)).alloc (.cells (stC stW).toArray 52)).alloc (.cells (fnC (fnW (w.heap.size + 2))).toArray 35)) (.cells #[.slice none 0 0, .slice none 0 0, .slice (some ⟨w.heap.size + 1 + 1 + 1, 0, none⟩) 1 1] 26)
    rw [show (((((w.alloc (.cells #[.string ⟨#[]⟩, .string ⟨#[102]⟩] 58)).alloc (.cells #[.string ⟨#[120]⟩, .slice (some ⟨w.heap.size, 0, none⟩) 2 2] 39)).alloc (.cells (stC stW).toArray 52)).alloc (.cells (fnC (fnW (w.heap.size + 2))).toArray 35)).heap.size) = w.heap.size + 4 by simp] at this
    exact this
  have hz := Lib.hid (show ∀ w', Below W0.heap.size W0 w' → w'.cell? ⟨w.heap.size + 1, 0, none⟩ = some (.string ⟨#[120]⟩) ∧ w'.cell? ⟨w.heap.size + 1, 1, none⟩ = some (.slice (some ⟨w.heap.size, 0, none⟩) 2 2) ∧ w'.cell? ⟨w.heap.size + 1 + 1 + 1 + 1, 0, none⟩ = some (.slice none 0 0) ∧ w'.cell? ⟨w.heap.size + 1 + 1 + 1 + 1, 1, none⟩ = some (.slice none 0 0) ∧ w'.cell? ⟨w.heap.size + 1 + 1 + 1 + 1, 2, none⟩ = some (.slice (some ⟨w.heap.size + 1 + 1 + 1, 0, none⟩) 1 1) from fun w' hb => by
    have a1 := keepB hx1 hb
    have a4 := keepB hx4 hb
    have e4 : w.heap.size + 1 + 1 + 1 + 1 = w.heap.size + 4 := by omega
    rw [e4]
    simp [World.cell?, a1, a4])
  have HP := Lib.hid (show ∀ w', Below W0.heap.size W0 w' → Calls Tryz.prog 18 #[.agg #[.string ⟨#[120]⟩, .slice (some ⟨w.heap.size, 0, none⟩) 2 2]] w' fun e w'' => e = .returned (.string ⟨#[120, 46, 42, 46, 102]⟩) ∧ Below w'.heap.size w' w'' from fun w' hb => by
    have h := place_any (plW w.heap.size) w' (plW_H _ _ (keepB hx0 hb)) (by rw [plW_T]; decide) (by rw [plW_T]; decide)
    rw [plW_T] at h
    exact h)
  have HO := Lib.hid (show ∀ w', Below W0.heap.size W0 w' → Calls Tryz.prog 21 #[.agg #[.bool false, .int .i64 0, .string ⟨#[120]⟩, .slice (some ⟨w.heap.size, 0, none⟩) 2 2]] w' fun e w'' => e = .returned (.string ⟨#[120, 46, 42, 46, 102]⟩) ∧ Below w'.heap.size w' w'' from fun w' hb => by
    have h := oper_pl 0 (plW w.heap.size) w' (plW_H _ _ (keepB hx0 hb)) (by rw [plW_T]; decide) (by rw [plW_T]; decide)
    rw [plW_T] at h
    exact h)
  have hSH : ∀ w', Below W0.heap.size W0 w' → SoH 2 w' (soW (w.heap.size + 2)) := fun w' hb => soW_H _ _ (keepB hx2 hb) (keepB hx3 hb)
  have hVV : ∀ w', Below W0.heap.size W0 w' → Vz w' := fun w' hb => (hV.b HB0).b hb
  have HT := Lib.hid (show ∀ w', Below W0.heap.size W0 w' → Calls Tryz.prog 14 #[.agg #[.slice none 0 0, .slice none 0 0, .slice (some ⟨w.heap.size + 1 + 1 + 1, 0, none⟩) 1 1]] w' fun e w'' => e = .returned (.string ⟨#[99, 111, 32, 102, 40, 41, 32, 123, 10, 9, 114, 101, 116, 117, 114, 110, 32, 45, 49, 59, 10, 125, 10]⟩) ∧ Below w'.heap.size w' w'' from fun w' hb => text_W (w.heap.size + 2) w' (hVV w' hb) (hSH w' hb))
  have HVa := Lib.hid (show ∀ w', Below W0.heap.size W0 w' → Calls Tryz.prog 13 #[.agg #[.slice none 0 0, .slice none 0 0, .slice (some ⟨w.heap.size + 1 + 1 + 1, 0, none⟩) 1 1]] w' fun e w'' => e = .returned (.bool true) ∧ Below w'.heap.size w' w'' from fun w' hb => by
    have h := valid_any 2 (soW (w.heap.size + 2)) w' (hSH w' hb) (hVV w' hb)
    rw [soW_ok] at h
    exact h)
  have HS1 := Lib.hid (show ∀ w', Below W0.heap.size W0 w' → Calls Tryz.prog 12 #[.agg #[.slice none 0 0, .slice none 0 0, .slice (some ⟨w.heap.size + 1 + 1 + 1, 0, none⟩) 1 1], .agg #[.slice none 0 0, .slice none 0 0, .slice (some ⟨w.heap.size + 1 + 1 + 1, 0, none⟩) 1 1]] w' fun e w'' => e = .returned (.bool true) ∧ Below w'.heap.size w' w'' from fun w' hb => by
    have h := same_any 2 (soW (w.heap.size + 2)) (soW (w.heap.size + 2)) w' (hSH w' hb) (hSH w' hb)
    rw [soW_same] at h
    exact h)
  have HS2 := Lib.hid (show ∀ w', Below W0.heap.size W0 w' → Calls Tryz.prog 12 #[.agg #[.slice none 0 0, .slice none 0 0, .slice (some ⟨w.heap.size + 1 + 1 + 1, 0, none⟩) 1 1], .agg #[.slice none 0 0, .slice none 0 0, .slice none 0 0]] w' fun e w'' => e = .returned (.bool false) ∧ Below w'.heap.size w' w'' from fun w' hb => by
    have h := same_any 2 (soW (w.heap.size + 2)) soZ w' (hSH w' hb) (soZ_H w')
    rw [soW_not] at h
    exact h)
  replace HB0 := Lib.hid HB0
  clear hSH hVV hx0 hx1 hx2 hx3 hx4 hsz hV
  go_enter Tryz.func8, Tryz.ntmps8
  go_wp2_with fail
  rw [← hW0]
  clear hW0
  refine (HP.out _ (Below.refl _ _)).mono ?_
  rintro e w1 ⟨rfl, hb⟩
  have K1 := Lib.hid (hb)
  clear hb
  obtain ⟨y00, y01, y02, y03, y04⟩ := hz.out _ K1.out
  go_wp2_with fail
  refine (set_EA _).mono ?_
  rintro e w2 ⟨rfl, hb⟩
  have K2 := Lib.hid (K1.out.trans (hb.mono K1.out.size))
  clear hb
  obtain ⟨y10, y11, y12, y13, y14⟩ := hz.out _ K2.out
  go_wp2_with fail
  refine (HT.out _ K2.out).mono ?_
  rintro e w3 ⟨rfl, hb⟩
  have K3 := Lib.hid (K2.out.trans (hb.mono K2.out.size))
  clear hb
  obtain ⟨y20, y21, y22, y23, y24⟩ := hz.out _ K3.out
  go_wp2_with fail
  refine (HVa.out _ K3.out).mono ?_
  rintro e w4 ⟨rfl, hb⟩
  have K4 := Lib.hid (K3.out.trans (hb.mono K3.out.size))
  clear hb
  obtain ⟨y30, y31, y32, y33, y34⟩ := hz.out _ K4.out
  go_wp2_with fail
  refine (HS1.out _ K4.out).mono ?_
  rintro e w5 ⟨rfl, hb⟩
  have K5 := Lib.hid (K4.out.trans (hb.mono K4.out.size))
  clear hb
  obtain ⟨y40, y41, y42, y43, y44⟩ := hz.out _ K5.out
  go_wp2_with fail
  refine (HS2.out _ K5.out).mono ?_
  rintro e w6 ⟨rfl, hb⟩
  have K6 := Lib.hid (K5.out.trans (hb.mono K5.out.size))
  clear hb
  obtain ⟨y50, y51, y52, y53, y54⟩ := hz.out _ K6.out
  go_wp2_with fail
  refine (type_int _).mono ?_
  rintro e w7 ⟨rfl, hb⟩
  have K7 := Lib.hid (K6.out.trans (hb.mono K6.out.size))
  clear hb
  obtain ⟨y60, y61, y62, y63, y64⟩ := hz.out _ K7.out
  go_wp2_with fail
  refine (HO.out _ K7.out).mono ?_
  rintro e w8 ⟨rfl, hb⟩
  have K8 := Lib.hid (K7.out.trans (hb.mono K7.out.size))
  clear hb
  obtain ⟨y70, y71, y72, y73, y74⟩ := hz.out _ K8.out
  go_wp2_with fail
  go_ret
  exact ⟨by first | done | rfl, HB0.out.trans (K8.out.mono HB0.out.size)⟩
end Go.Proofs.YtgogdcpgfmndnaaGreatDoor
