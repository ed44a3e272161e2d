/-
  mir's Text of the document's example. No conditions but that its rows lie in the heap.
-/
import Derived.Test.YtghkbihgdabamaaGreatDoorKQTextA
import Derived.Test.YtghkbihgdabamaaGreatDoorKBModel
import Derived.Deep.RegionHeld3
namespace Go.Proofs.YtghkbihgdabamaaGreatDoor
open Go.RowKit

theorem Kp.block {B b k : Nat} {w w' : World} {c : Array Value} {t : TypeId} (h : Kp B b w w') (hk : w.heap[k]? = some (.cells c t)) (hkb : k ≠ b) (ht : t ≠ 5) : w'.heap[k]? = some (.cells c t) := kp_block h hk hkb ht
theorem Bd.lt {B b : Nat} {l : List UInt8} {w : World} (h : Bd B b l w) : b < w.heap.size := by
  rcases h with h | h
  · obtain ⟨-, v, hb, -⟩ := h
    exact (Array.getElem?_eq_some_iff.1 hb).1
  · obtain ⟨-, v, hb, -⟩ := h
    exact (Array.getElem?_eq_some_iff.1 hb).1
set_option maxRecDepth 100000 in
set_option maxHeartbeats 4000000 in
theorem tellRet (B b : Nat) (bs0 : List UInt8) (w : World) (h : Bd B b bs0 w) (hBw : B ≤ w.heap.size) (hlen : bs0.length ≤ 1000) :
    Calls Tryz.prog 46 #[.agg #[.int .i64 3, .int .i64 0, .int .i64 0, .slice none 0 0, .int .i64 0, .slice none 0 0, .int .i64 0, .slice none 0 0, .int .i64 0, .int .i64 0, .bool false, .int .i64 0, .bool false, .int .i64 0, .slice none 0 0, .slice none 0 0], (.func (.func 40) #[] #[.pointer (some ⟨b, 0, none⟩)])] w fun e w' => e = .returned (.tuple #[]) ∧ Bd B b (bs0 ++ [9, 114, 101, 116, 117, 114, 110, 32, 99, 111, 112, 121, 32, 48, 10]) w' ∧ Kp B b w w' := by
  obtain ⟨W0, hW⟩ : ∃ W, W = w.alloc (.cells #[.int .i64 3, .int .i64 0, .int .i64 0, .slice none 0 0, .int .i64 0, .slice none 0 0, .int .i64 0, .slice none 0 0, .int .i64 0, .int .i64 0, .bool false, .int .i64 0, .bool false, .int .i64 0, .slice none 0 0, .slice none 0 0] 57) := ⟨_, rfl⟩
  have hb0 : Below w.heap.size w W0 := by rw [hW]; exact alloc_below _ _
  have hx0 : W0.heap[w.heap.size]? = some (.cells #[.int .i64 3, .int .i64 0, .int .i64 0, .slice none 0 0, .int .i64 0, .slice none 0 0, .int .i64 0, .slice none 0 0, .int .i64 0, .int .i64 0, .bool false, .int .i64 0, .bool false, .int .i64 0, .slice none 0 0, .slice none 0 0] 57) := by rw [hW]; exact heap_alloc_new _ _
  obtain ⟨N, hN⟩ : ∃ N, N = w.heap.size := ⟨_, rfl⟩
  rw [← hN] at hx0
  have hq : ∀ W : World, W.heap[N]? = some (.cells #[.int .i64 3, .int .i64 0, .int .i64 0, .slice none 0 0, .int .i64 0, .slice none 0 0, .int .i64 0, .slice none 0 0, .int .i64 0, .int .i64 0, .bool false, .int .i64 0, .bool false, .int .i64 0, .slice none 0 0, .slice none 0 0] 57) → W.cell? ⟨N, 0, none⟩ = some (.int .i64 3) ∧ W.cell? ⟨N, 15, none⟩ = some (.slice none 0 0) ∧ W.cell? ⟨N, 10, none⟩ = some (.bool false) ∧ W.cell? ⟨N, 10 + 1, none⟩ = some (.int .i64 0) ∧ W.cell? ⟨N, 10 + 2, none⟩ = some (.bool false) ∧ W.cell? ⟨N, 10 + 3, none⟩ = some (.int .i64 0) ∧ W.cell? ⟨N, 10 + 4, none⟩ = some (.slice none 0 0) := fun W h => by
    refine ⟨?_, ?_, ?_, ?_, ?_, ?_, ?_⟩ <;> simp [World.cell?, h]
  have HQ := Lib.hid hq
  have HB0 := Lib.hid (And.intro hb0 hx0)
  have HH := Lib.hid (And.intro h (And.intro hBw hlen))
  obtain ⟨a0, a1, a2, a3, a4, a5, a6⟩ := hq W0 hx0
  have HLL := Lib.hid (show bs0.length + (([⟨#[9, 114, 101, 116, 117, 114, 110, 32]⟩, ⟨#[99, 111, 112, 121, 32, 48]⟩] : List ByteArray).flatMap bs).length + 1 ≤ 100000000000000 from by
    have h : (([⟨#[9, 114, 101, 116, 117, 114, 110, 32]⟩, ⟨#[99, 111, 112, 121, 32, 48]⟩] : List ByteArray).flatMap bs).length = 14 := by decide
    omega)
  clear h hBw hlen hb0 hx0 hq
  go_enter Tryz.func46, Tryz.ntmps46
  go_upto_region 1 with fail
  rw [← hW]
  clear hW
  try simp only [← hN]
  clear hN
  go_upto_region 11 with
    (go_loud (go_at_call 80; refine (numbers_nil W0).mono ?_; rintro e W1 ⟨rfl, hb1⟩; have HX1 := Lib.hid (And.intro (HB0.out.1.trans (hb1.mono HB0.out.1.size)) ((hb1.block N (blk_lt HB0.out.2)).trans HB0.out.2)); obtain ⟨c0, c1, c2, c3, c4, c5, c6⟩ := HQ.out W1 HX1.out.2; clear hb1))
  clear a0 a1 a2 a3 a4 a5 a6
  go_wp2_with
    (first
      | (go_loud (go_at_call 79; refine (use_copy W1).mono ?_; rintro e W2 ⟨rfl, hb2⟩; have HB2 := Lib.hid (HX1.out.1.trans (hb2.mono HX1.out.1.size)); clear hb2))
      | (go_loud (go_at_call 40; refine (mline_any B b W2.heap.size 2 bs0 [⟨#[9, 114, 101, 116, 117, 114, 110, 32]⟩, ⟨#[99, 111, 112, 121, 32, 48]⟩] (W2.alloc (.cells #[.string ⟨#[9, 114, 101, 116, 117, 114, 110, 32]⟩, .string ⟨#[99, 111, 112, 121, 32, 48]⟩] 9)) (builder_below HH.out.1 (HB2.out.trans ((alloc_below W2 _).mono HB2.out.size))) (heap_alloc_new _ _) (by have h1 := Bd.lt HH.out.1; have h2 := HB2.out.size; omega) (by have h1 := HH.out.2.1; have h2 := HB2.out.size; have h3 := (alloc_below W2 (.cells #[.string ⟨#[9, 114, 101, 116, 117, 114, 110, 32]⟩, .string ⟨#[99, 111, 112, 121, 32, 48]⟩] 9)).size; omega) (by decide) HLL.out).mono ?_; rintro e W3 ⟨rfl, h3, k3⟩; have H3 := Lib.hid (And.intro h3 k3); clear h3 k3)))
  go_end0
  exact ⟨rfl, H3.out.1, (Kp.of_below (HB2.out.trans ((alloc_below W2 _).mono HB2.out.size)) HH.out.2.1).trans H3.out.2⟩
set_option maxRecDepth 100000 in
set_option maxHeartbeats 4000000 in
theorem text_fixed (p q : Nat) (w : World) (hp : w.heap[p]? = some (.cells #[.string ⟨#[120]⟩, .int .i64 1, .string ⟨#[]⟩, .slice none 0 0, .string ⟨#[]⟩, .int .i64 1, .string ⟨#[]⟩, .slice none 0 0] 66)) (hq : w.heap[q]? = some (.cells #[.slice none 0 0, .int .i64 3, .int .i64 0, .int .i64 0, .slice none 0 0, .int .i64 0, .slice none 0 0, .int .i64 0, .slice none 0 0, .int .i64 0, .int .i64 0, .bool false, .int .i64 0, .bool false, .int .i64 0, .slice none 0 0, .slice none 0 0] 60)) :
    Calls Tryz.prog 19 #[.agg #[.string ⟨#[102]⟩, .int .i64 1, .slice (some ⟨p, 0, none⟩) 2 2, .slice (some ⟨q, 0, none⟩) 1 1]] w fun e w' => e = .returned (.string ⟨#[102, 32, 49, 10, 9, 48, 32, 120, 32, 105, 110, 116, 10, 9, 49, 32, 32, 105, 110, 116, 10, 98, 108, 111, 99, 107, 32, 48, 10, 9, 114, 101, 116, 117, 114, 110, 32, 99, 111, 112, 121, 32, 48, 10]⟩) ∧ Below w.heap.size w w' := by
  obtain ⟨V0, hV⟩ : ∃ W, W = w.alloc (.cells #[.string ⟨#[102]⟩, .int .i64 1, .slice (some ⟨p, 0, none⟩) 2 2, .slice (some ⟨q, 0, none⟩) 1 1] 30) := ⟨_, rfl⟩
  obtain ⟨W0, hW⟩ : ∃ W, W = V0.alloc (.cells #[.pointer none, .slice none 0 0] 107) := ⟨_, rfl⟩
  have hbv : Below w.heap.size w V0 := by rw [hV]; exact alloc_below _ _
  have hxv : V0.heap[w.heap.size]? = some (.cells #[.string ⟨#[102]⟩, .int .i64 1, .slice (some ⟨p, 0, none⟩) 2 2, .slice (some ⟨q, 0, none⟩) 1 1] 30) := by rw [hV]; exact heap_alloc_new _ _
  have hbw : Below V0.heap.size V0 W0 := by rw [hW]; exact alloc_below _ _
  have hI : Bd V0.heap.size V0.heap.size [] W0 := by rw [hW]; exact newB V0
  obtain ⟨N, hN⟩ : ∃ N, N = w.heap.size := ⟨_, rfl⟩
  obtain ⟨b, hb⟩ : ∃ N, N = V0.heap.size := ⟨_, rfl⟩
  have hbn : b = N + 1 := by rw [hb, hV, hN]; simp
  have hpN : p < N := by rw [hN]; exact blk_lt hp
  have hqN : q < N := by rw [hN]; exact blk_lt hq
  rw [← hb] at hI hbw
  rw [← hN] at hxv hbv
  have HB0 := Lib.hid (And.intro hbv (And.intro hbw hb.symm))
  have HBB := Lib.hid (And.intro hb (And.intro hbn hN))
  have hkeep : ∀ W, Below b W0 W → W.heap[N]? = some (.cells #[.string ⟨#[102]⟩, .int .i64 1, .slice (some ⟨p, 0, none⟩) 2 2, .slice (some ⟨q, 0, none⟩) 1 1] 30) ∧ W.heap[p]? = some (.cells #[.string ⟨#[120]⟩, .int .i64 1, .string ⟨#[]⟩, .slice none 0 0, .string ⟨#[]⟩, .int .i64 1, .string ⟨#[]⟩, .slice none 0 0] 66) ∧ W.heap[q]? = some (.cells #[.slice none 0 0, .int .i64 3, .int .i64 0, .int .i64 0, .slice none 0 0, .int .i64 0, .slice none 0 0, .int .i64 0, .slice none 0 0, .int .i64 0, .int .i64 0, .bool false, .int .i64 0, .bool false, .int .i64 0, .slice none 0 0, .slice none 0 0] 60) := fun W h => by
    have h2 := hbw.trans h
    exact ⟨(h2.block N (by omega)).trans hxv, (h2.block p (by omega)).trans ((hbv.block p hpN).trans hp), (h2.block q (by omega)).trans ((hbv.block q hqN).trans hq)⟩
  have HKP := Lib.hid hkeep
  have HI := Lib.hid hI
  have HLE := Lib.hid (show b ≤ W0.heap.size by have h1 := hbw.size; omega)
  obtain ⟨p0, p1, p2, p3, pf, pl⟩ := cells4p (hkeep W0 (Below.refl _ _)).1
  clear hI hbw hbv hxv hN hbn hb hp hq hpN hqN hkeep
  go_enter Tryz.func19, Tryz.ntmps19
  go_upto_region 2 with fail
  rw [← hV, ← hW]
  clear hV hW
  try simp only [← HBB.out.1]
  try simp only [← HBB.out.2.2]
  simp only [← HBB.out.2.1]
  go_upto_region 3 with fail
  refine wp_region_held_drew (S := (fun w' => w'.cell? ⟨N, 0, none⟩ = some (.string ⟨#[102]⟩) ∧ w'.cell? ⟨N, 1, none⟩ = some (.int .i64 1))) (by kernel_rfl) ?_ (fun hHeld => ?_)
  · exact ⟨p0, p1⟩
  clear p0 p1 p2 p3 pf pl
  refine wpAnyH_take (i := 0) (oi := { dst := some 12, op := Op.move (Operand.tmp 4), type := 114, pos := "mir.go:46", after := #[], guard := none }) (v := ?vq0_1) rfl (by kernel_rfl) (by kernel_rfl) (by kernel_rfl) (fun _ _ _ h => h) (Or.inl ⟨by rfl, ?hq0_1⟩) (by assumption) ?_
  case hq0_1 => intro w hSw; (try dsimp only at hSw); go_simp; try (with_reducible rfl)
  (try simp only [Act.put, qA, qB, qC])
  refine wpAnyH_take (i := 1) (oi := { dst := some 13, op := Op.fieldAddr 30 (Operand.tmp 1) 0, type := 0, pos := "mir.go:46", after := #[], guard := none }) (v := ?vq1_2) rfl (by kernel_rfl) (by kernel_rfl) (by kernel_rfl) (fun _ _ _ h => h) (Or.inl ⟨by rfl, ?hq1_2⟩) (by assumption) ?_
  case hq1_2 => intro w hSw; (try dsimp only at hSw); go_simp; try (with_reducible rfl)
  (try simp only [Act.put, qA, qB, qC])
  refine wpAnyH_take (i := 2) (oi := { dst := some 14, op := Op.load 9 (Operand.tmp 13), type := 9, pos := "mir.go:46", after := #[{ on := 1, ground := Ground.data }], guard := none }) (v := ?vq2_3) rfl (by kernel_rfl) (by kernel_rfl) (by kernel_rfl) (fun _ _ _ h => h) (Or.inl ⟨by rfl, ?hq2_3⟩) (by assumption) ?_
  case hq2_3 => intro w hSw; (try dsimp only at hSw); go_simp; try (with_reducible rfl)
  (try simp only [Act.put, qA, qB, qC])
  refine wpAnyH_take (i := 3) (oi := { dst := some 15, op := Op.fieldAddr 30 (Operand.tmp 1) 1, type := 0, pos := "mir.go:46", after := #[], guard := none }) (v := ?vq3_4) rfl (by kernel_rfl) (by kernel_rfl) (by kernel_rfl) (fun _ _ _ h => h) (Or.inl ⟨by rfl, ?hq3_4⟩) (by assumption) ?_
  case hq3_4 => intro w hSw; (try dsimp only at hSw); go_simp; try (with_reducible rfl)
  (try simp only [Act.put, qA, qB, qC])
  refine wpAnyH_take (i := 4) (oi := { dst := some 16, op := Op.load 3 (Operand.tmp 15), type := 3, pos := "mir.go:46", after := #[{ on := 3, ground := Ground.data }], guard := none }) (v := ?vq4_5) rfl (by kernel_rfl) (by kernel_rfl) (by kernel_rfl) (fun _ _ _ h => h) (Or.inl ⟨by rfl, ?hq4_5⟩) (by assumption) ?_
  case hq4_5 => intro w hSw; (try dsimp only at hSw); go_simp; try (with_reducible rfl)
  (try simp only [Act.put, qA, qB, qC])
  refine wpAnyH_ready (rs := [5]) (by kernel_rfl) (by simp) ?_
  refine AllReadyH.cons (o := { dst := some 17, op := Op.call { callee := Callee.value (Operand.func 43), args := #[Operand.tmp 16], argTypes := #[3] }, type := 9, pos := "mir.go:46", after := #[{ on := 4, ground := Ground.data }], guard := none }) rfl (fun K hK => ?_) AllReadyH.nil
  go_simp
  refine (itoa1 _).mono ?_
  rintro e X1 ⟨rfl, hx1⟩
  rw [hx1]
  clear hx1
  refine hK.out _ _ ?_ (fun hHeld => ?_)
  · obtain ⟨p0, p1, p2, p3, pf, pl⟩ := cells4p (HKP.out W0.drew ⟨rfl, rfl, rfl, Nat.le_refl _, fun _ _ => rfl⟩).1
    exact ⟨p0, p1⟩
  clear hK K
  (try simp only [Act.put, qA, qB, qC])
  refine wpAnyH_ready (rs := [6]) (by kernel_rfl) (by simp) ?_
  refine AllReadyH.cons (o := { dst := some 18, op := Op.buildSlice 108 3 #[(0, Operand.tmp 14), (1, Operand.const (Value.string { data := #[32] })), (2, Operand.tmp 17)], type := 108, pos := "mir.go:46", after := #[{ on := 2, ground := Ground.data }, { on := 5, ground := Ground.data }], guard := none }) rfl (fun K hK => ?_) AllReadyH.nil
  go_simp
  obtain ⟨KX2, hKX2⟩ : ∃ k, k = W0.heap.size := ⟨_, rfl⟩
  obtain ⟨X2, hX2⟩ : ∃ W, W = (W0.alloc (.cells #[.string ⟨#[102]⟩, .string ⟨#[32]⟩, .string ⟨#[49]⟩] 9)).drew := ⟨_, rfl⟩
  rw [← hX2, ← hKX2]
  have hbX2 : Below W0.heap.size W0 X2 := by rw [hX2]; exact (alloc_below _ _).drew
  have hxX2 : X2.heap[KX2]? = some (.cells #[.string ⟨#[102]⟩, .string ⟨#[32]⟩, .string ⟨#[49]⟩] 9) := by rw [hX2, hKX2]; exact heap_alloc_new _ _
  have HXX2 := Lib.hid (And.intro hbX2 (And.intro hxX2 (show KX2 = W0.heap.size from hKX2)))
  clear hX2 hKX2 hbX2 hxX2
  refine hK.out _ _ ?_ (fun hHeld => ?_)
  · obtain ⟨p0, p1, p2, p3, pf, pl⟩ := cells4p (HKP.out X2 (HXX2.out.1.mono HLE.out)).1
    exact ⟨p0, p1⟩
  clear hK K
  (try simp only [Act.put, qA, qB, qC])
  refine wpAnyH_ready (rs := [7]) (by kernel_rfl) (by simp) ?_
  refine AllReadyH.cons (o := { dst := some 19, op := Op.call { callee := Callee.value (Operand.tmp 12), args := #[Operand.tmp 18], argTypes := #[108] }, type := 0, pos := "mir.go:46", after := #[{ on := 0, ground := Ground.data }, { on := 6, ground := Ground.data }, { on := 5, ground := Ground.chain }], guard := none }) rfl (fun K hK => ?_) AllReadyH.nil
  go_simp
  refine (mline_any b b KX2 3 [] [⟨#[102]⟩, ⟨#[32]⟩, ⟨#[49]⟩] X2 (builder_below HI.out HXX2.out.1) HXX2.out.2.1 (by have h1 := Bd.lt HI.out; have h2 := HXX2.out.2.2; omega) (by have h1 := HLE.out; have h2 := HXX2.out.1.size; omega) (by decide) (by decide)).mono ?_
  rintro e X3 ⟨rfl, h3, k3⟩
  have H3 := Lib.hid (show Bd b b [102, 32, 49, 10] X3 ∧ Below b W0 X3 from ⟨h3, (HXX2.out.1.mono HLE.out).trans k3.below⟩)
  clear h3 k3
  refine hK.out _ _ ?_ (fun hHeld => ?_)
  · obtain ⟨p0, p1, p2, p3, pf, pl⟩ := cells4p (HKP.out X3 H3.out.2).1
    exact ⟨p0, p1⟩
  clear hK K
  (try simp only [Act.put, qA, qB, qC])
  refine wpAnyH_done (by kernel_rfl) ?_ _
  obtain ⟨p0, p1, p2, p3, pf, pl⟩ := cells4p (HKP.out X3 H3.out.2).1
  go_wp2_with fail
  clear p0 p1 p2 p3 pf pl
  go_loopw [23] (fun u wr => ∃ z : Int, u = .int .i64 z ∧ ((z = 0 ∧ Bd b b [102, 32, 49, 10] wr) ∨ (z = 1 ∧ Bd b b [102, 32, 49, 10, 9, 48, 32, 120, 32, 105, 110, 116, 10] wr) ∨ (z = 2 ∧ Bd b b [102, 32, 49, 10, 9, 48, 32, 120, 32, 105, 110, 116, 10, 9, 49, 32, 32, 105, 110, 116, 10] wr)) ∧ Below b W0 wr) (fun u _ => (2 - intOf u).toNat)
  case atStart => exact ⟨0, rfl, Or.inl ⟨rfl, H3.out.1⟩, H3.out.2⟩
  case round =>
    clear H3
    obtain ⟨z, rfl, hz, hbw⟩ := hrel
    have BW := Lib.hid hbw
    have hpl := (HKP.out wr hbw).2.1
    obtain ⟨wo, rfl⟩ : ∃ wo, wo = wr := ⟨_, rfl⟩
    clear hbw
    rcases hz with ⟨rfl, hB⟩ | ⟨rfl, hB⟩ | ⟨rfl, hB⟩
    · have HB := Lib.hid hB
      clear hB
      have g0 : wo.cell? ⟨p, 0, none⟩ = some (.string ⟨#[120]⟩) := by simp [World.cell?, hpl]
      have g1 : wo.cell? ⟨p, 0 + 1, none⟩ = some (.int .i64 1) := by simp [World.cell?, hpl]
      have g2 : wo.cell? ⟨p, 0 + 2, none⟩ = some (.string ⟨#[]⟩) := by simp [World.cell?, hpl]
      have g3 : wo.cell? ⟨p, 0 + 3, none⟩ = some (.slice none 0 0) := by simp [World.cell?, hpl]
      clear hpl
      have HONE := Lib.hid (show ∀ v ∈ ([.string ⟨#[120]⟩, .int .i64 1, .string ⟨#[]⟩, .slice none 0 0] : List Value), v.oneCell' = true from by intro v hv; simp at hv; rcases hv with rfl | rfl | rfl | rfl <;> rfl)
      go_upto_region 7 with (go_loud (refine wpList_store_new2 rfl 66 (.tmp 6) (.tmp 27) rfl wo _ _ wo.heap.size rfl rfl [.string ⟨#[120]⟩, .int .i64 1, .string ⟨#[]⟩, .slice none 0 0] rfl rfl (show (Tryz.prog.info? 66).map (·.size) = some 4 by kernel_rfl) HONE.out ?_; intro W1 hb1 hbx1 hs1))
      obtain ⟨M, hM⟩ : ∃ M, M = wo.heap.size := ⟨_, rfl⟩
      rw [← hM] at hbx1
      try simp only [← hM]
      have hq : ∀ W : World, W.heap[M]? = some (.cells #[.string ⟨#[120]⟩, .int .i64 1, .string ⟨#[]⟩, .slice none 0 0] 66) → W.cell? ⟨M, 0, none⟩ = some (.string ⟨#[120]⟩) ∧ W.cell? ⟨M, 1, none⟩ = some (.int .i64 1) ∧ W.cell? ⟨M, 1 + 1, none⟩ = some (.string ⟨#[]⟩) ∧ W.cell? ⟨M, 1 + 2, none⟩ = some (.slice none 0 0) := fun W h => by
        refine ⟨?_, ?_, ?_, ?_⟩ <;> simp [World.cell?, h]
      have HQ := Lib.hid hq
      have hble : b ≤ wo.heap.size := Nat.le_trans HLE.out BW.out.size
      have hbm : b < M := by rw [hM]; exact Bd.lt HB.out
      have H1 := Lib.hid (show W1.heap[M]? = some (.cells #[.string ⟨#[120]⟩, .int .i64 1, .string ⟨#[]⟩, .slice none 0 0] 66) ∧ Bd b b [102, 32, 49, 10] W1 ∧ Below b W0 W1 ∧ b ≤ W1.heap.size ∧ b < M ∧ M < W1.heap.size from ⟨hbx1, builder_below HB.out hb1, BW.out.trans (hb1.mono hble), Nat.le_trans hble hb1.size, hbm, blk_lt hbx1⟩)
      obtain ⟨m0, m1, m2, m3⟩ := hq W1 hbx1
      clear hM hb1 hbx1 hs1 hq hble hbm g0 g1 g2 g3
      refine wp_region_held_drew (S := (fun w' => w'.cell? ⟨M, 0, none⟩ = some (.string ⟨#[120]⟩) ∧ w'.cell? ⟨M, 1, none⟩ = some (.int .i64 1) ∧ w'.cell? ⟨M, 1 + 1, none⟩ = some (.string ⟨#[]⟩) ∧ w'.cell? ⟨M, 1 + 2, none⟩ = some (.slice none 0 0))) (by kernel_rfl) ?_ (fun hHeld => ?_)
      · exact ⟨m0, m1, m2, m3⟩
      clear m0 m1 m2 m3
      refine wpAnyH_take (i := 0) (oi := { dst := some 28, op := Op.move (Operand.tmp 4), type := 114, pos := "mir.go:48", after := #[], guard := none }) (v := ?vq0_6) rfl (by kernel_rfl) (by kernel_rfl) (by kernel_rfl) (fun _ _ _ h => h) (Or.inl ⟨by rfl, ?hq0_6⟩) (by assumption) ?_
      case hq0_6 => intro w hSw; (try dsimp only at hSw); go_simp; try (with_reducible rfl)
      (try simp only [Act.put, qA, qB, qC])
      refine wpAnyH_take (i := 1) (oi := { dst := some 29, op := Op.move (Operand.tmp 5), type := 3, pos := "mir.go:48", after := #[], guard := none }) (v := ?vq1_7) rfl (by kernel_rfl) (by kernel_rfl) (by kernel_rfl) (fun _ _ _ h => h) (Or.inl ⟨by rfl, ?hq1_7⟩) (by assumption) ?_
      case hq1_7 => intro w hSw; (try dsimp only at hSw); go_simp; try (with_reducible rfl)
      (try simp only [Act.put, qA, qB, qC])
      refine wpAnyH_take (i := 3) (oi := { dst := some 31, op := Op.fieldAddr 66 (Operand.tmp 6) 0, type := 0, pos := "mir.go:48", after := #[], guard := none }) (v := ?vq3_8) rfl (by kernel_rfl) (by kernel_rfl) (by kernel_rfl) (fun _ _ _ h => h) (Or.inl ⟨by rfl, ?hq3_8⟩) (by assumption) ?_
      case hq3_8 => intro w hSw; (try dsimp only at hSw); go_simp; try (with_reducible rfl)
      (try simp only [Act.put, qA, qB, qC])
      refine wpAnyH_take (i := 4) (oi := { dst := some 32, op := Op.load 9 (Operand.tmp 31), type := 9, pos := "mir.go:48", after := #[{ on := 3, ground := Ground.data }], guard := none }) (v := ?vq4_9) rfl (by kernel_rfl) (by kernel_rfl) (by kernel_rfl) (fun _ _ _ h => h) (Or.inl ⟨by rfl, ?hq4_9⟩) (by assumption) ?_
      case hq4_9 => intro w hSw; (try dsimp only at hSw); go_simp; try (with_reducible rfl)
      (try simp only [Act.put, qA, qB, qC])
      refine wpAnyH_take (i := 5) (oi := { dst := some 33, op := Op.fieldAddr 66 (Operand.tmp 6) 1, type := 0, pos := "mir.go:48", after := #[], guard := none }) (v := ?vq5_10) rfl (by kernel_rfl) (by kernel_rfl) (by kernel_rfl) (fun _ _ _ h => h) (Or.inl ⟨by rfl, ?hq5_10⟩) (by assumption) ?_
      case hq5_10 => intro w hSw; (try dsimp only at hSw); go_simp; try (with_reducible rfl)
      (try simp only [Act.put, qA, qB, qC])
      refine wpAnyH_take (i := 6) (oi := { dst := some 34, op := Op.load 46 (Operand.tmp 33), type := 46, pos := "mir.go:48", after := #[{ on := 5, ground := Ground.data }], guard := none }) (v := ?vq6_11) rfl (by kernel_rfl) (by kernel_rfl) (by kernel_rfl) (fun _ _ _ h => h) (Or.inl ⟨by rfl, ?hq6_11⟩) (by assumption) ?_
      case hq6_11 => intro w hSw; (try dsimp only at hSw); go_simp; try (with_reducible rfl)
      (try simp only [Act.put, qA, qB, qC])
      refine wpAnyH_ready (rs := [2]) (by kernel_rfl) (by simp) ?_
      refine AllReadyH.cons (o := { dst := some 30, op := Op.call { callee := Callee.value (Operand.func 43), args := #[Operand.tmp 29], argTypes := #[3] }, type := 9, pos := "mir.go:48", after := #[{ on := 1, ground := Ground.data }], guard := none }) rfl (fun K hK => ?_) AllReadyH.nil
      go_simp
      refine (itoa0 _).mono ?_
      rintro e X1 ⟨rfl, hx1⟩
      rw [hx1]
      clear hx1
      refine hK.out _ _ ?_ (fun hHeld => ?_)
      · exact HQ.out W1.drew H1.out.1
      clear hK K
      (try simp only [Act.put, qA, qB, qC])
      refine wpAnyH_ready (rs := [7]) (by kernel_rfl) (by simp) ?_
      refine AllReadyH.cons (o := { dst := some 35, op := Op.call { callee := Callee.value (Operand.func 44), args := #[Operand.tmp 34], argTypes := #[46] }, type := 9, pos := "mir.go:48", after := #[{ on := 6, ground := Ground.data }, { on := 2, ground := Ground.chain }], guard := none }) rfl (fun K hK => ?_) AllReadyH.nil
      go_simp
      refine (typeInt_any _).mono ?_
      rintro e X1 ⟨rfl, hx1⟩
      have HX1 := Lib.hid (show Below W1.heap.size W1 X1 from (show Below W1.heap.size W1 W1.drew from ⟨rfl, rfl, rfl, Nat.le_refl _, fun _ _ => rfl⟩).trans hx1)
      clear hx1
      refine hK.out _ _ ?_ (fun hHeld => ?_)
      · exact HQ.out X1 ((HX1.out.block M H1.out.2.2.2.2.2).trans H1.out.1)
      clear hK K
      (try simp only [Act.put, qA, qB, qC])
      refine wpAnyH_ready (rs := [8]) (by kernel_rfl) (by simp) ?_
      refine AllReadyH.cons (o := { dst := some 36, op := Op.buildSlice 108 6 #[(0, Operand.const (Value.string { data := #[9] })), (1, Operand.tmp 30), (2, Operand.const (Value.string { data := #[32] })), (3, Operand.tmp 32), (4, Operand.const (Value.string { data := #[32] })), (5, Operand.tmp 35)], type := 108, pos := "mir.go:48", after := #[{ on := 2, ground := Ground.data }, { on := 4, ground := Ground.data }, { on := 7, ground := Ground.data }], guard := none }) rfl (fun K hK => ?_) AllReadyH.nil
      go_simp
      obtain ⟨KX2, hKX2⟩ : ∃ k, k = X1.heap.size := ⟨_, rfl⟩
      obtain ⟨X2, hX2⟩ : ∃ W, W = (X1.alloc (.cells #[.string ⟨#[9]⟩, .string ⟨#[48]⟩, .string ⟨#[32]⟩, .string ⟨#[120]⟩, .string ⟨#[32]⟩, .string ⟨#[105, 110, 116]⟩] 9)) := ⟨_, rfl⟩
      rw [← hX2, ← hKX2]
      have hbX2 : Below X1.heap.size X1 X2 := by rw [hX2]; exact (alloc_below _ _)
      have hxX2 : X2.heap[KX2]? = some (.cells #[.string ⟨#[9]⟩, .string ⟨#[48]⟩, .string ⟨#[32]⟩, .string ⟨#[120]⟩, .string ⟨#[32]⟩, .string ⟨#[105, 110, 116]⟩] 9) := by rw [hX2, hKX2]; exact heap_alloc_new _ _
      have HXX2 := Lib.hid (And.intro hbX2 (And.intro hxX2 (show KX2 = X1.heap.size from hKX2)))
      clear hX2 hKX2 hbX2 hxX2
      refine hK.out _ _ ?_ (fun hHeld => ?_)
      · exact HQ.out X2 (((HX1.out.trans (HXX2.out.1.mono HX1.out.size)).block M H1.out.2.2.2.2.2).trans H1.out.1)
      clear hK K
      (try simp only [Act.put, qA, qB, qC])
      refine wpAnyH_ready (rs := [9]) (by kernel_rfl) (by simp) ?_
      refine AllReadyH.cons (o := { dst := some 37, op := Op.call { callee := Callee.value (Operand.tmp 28), args := #[Operand.tmp 36], argTypes := #[108] }, type := 0, pos := "mir.go:48", after := #[{ on := 0, ground := Ground.data }, { on := 8, ground := Ground.data }, { on := 7, ground := Ground.chain }], guard := none }) rfl (fun K hK => ?_) AllReadyH.nil
      go_simp
      refine (mline_any b b KX2 6 [102, 32, 49, 10] [⟨#[9]⟩, ⟨#[48]⟩, ⟨#[32]⟩, ⟨#[120]⟩, ⟨#[32]⟩, ⟨#[105, 110, 116]⟩] X2 (builder_below H1.out.2.1 (HX1.out.trans (HXX2.out.1.mono HX1.out.size))) HXX2.out.2.1 (by have h1 := H1.out.2.2.2.2; have h2 := HXX2.out.2.2; have h3 := HX1.out.size; omega) (by have h1 := H1.out.2.2.2.1; have h2 := HXX2.out.1.size; have h3 := HX1.out.size; omega) (by decide) (by decide)).mono ?_
      rintro e X3 ⟨rfl, h3, k3⟩
      have HX3 := Lib.hid (show Bd b b [102, 32, 49, 10, 9, 48, 32, 120, 32, 105, 110, 116, 10] X3 ∧ Below b W0 X3 ∧ X3.heap[M]? = some (.cells #[.string ⟨#[120]⟩, .int .i64 1, .string ⟨#[]⟩, .slice none 0 0] 66) from ⟨h3, (H1.out.2.2.1.trans ((HX1.out.trans (HXX2.out.1.mono HX1.out.size)).mono H1.out.2.2.2.1)).trans k3.below, Kp.block k3 (((HX1.out.trans (HXX2.out.1.mono HX1.out.size)).block M H1.out.2.2.2.2.2).trans H1.out.1) (by have h := H1.out.2.2.2.2.1; omega) (by decide)⟩)
      clear h3 k3
      refine hK.out _ _ ?_ (fun hHeld => ?_)
      · exact HQ.out X3 HX3.out.2.2
      clear hK K
      (try simp only [Act.put, qA, qB, qC])
      refine wpAnyH_done (by kernel_rfl) ?_ _
      go_wp2
      go_roundw
      case rel => exact ⟨1, rfl, Or.inr (Or.inl ⟨rfl, HX3.out.1⟩), HX3.out.2.1⟩
      case measure => simp [intOf]
    · have HB := Lib.hid hB
      clear hB
      have g0 : wo.cell? ⟨p, 4, none⟩ = some (.string ⟨#[]⟩) := by simp [World.cell?, hpl]
      have g1 : wo.cell? ⟨p, 4 + 1, none⟩ = some (.int .i64 1) := by simp [World.cell?, hpl]
      have g2 : wo.cell? ⟨p, 4 + 2, none⟩ = some (.string ⟨#[]⟩) := by simp [World.cell?, hpl]
      have g3 : wo.cell? ⟨p, 4 + 3, none⟩ = some (.slice none 0 0) := by simp [World.cell?, hpl]
      clear hpl
      have HONE := Lib.hid (show ∀ v ∈ ([.string ⟨#[]⟩, .int .i64 1, .string ⟨#[]⟩, .slice none 0 0] : List Value), v.oneCell' = true from by intro v hv; simp at hv; rcases hv with rfl | rfl | rfl | rfl <;> rfl)
      go_upto_region 7 with (go_loud (refine wpList_store_new2 rfl 66 (.tmp 6) (.tmp 27) rfl wo _ _ wo.heap.size rfl rfl [.string ⟨#[]⟩, .int .i64 1, .string ⟨#[]⟩, .slice none 0 0] rfl rfl (show (Tryz.prog.info? 66).map (·.size) = some 4 by kernel_rfl) HONE.out ?_; intro W1 hb1 hbx1 hs1))
      obtain ⟨M, hM⟩ : ∃ M, M = wo.heap.size := ⟨_, rfl⟩
      rw [← hM] at hbx1
      try simp only [← hM]
      have hq : ∀ W : World, W.heap[M]? = some (.cells #[.string ⟨#[]⟩, .int .i64 1, .string ⟨#[]⟩, .slice none 0 0] 66) → W.cell? ⟨M, 0, none⟩ = some (.string ⟨#[]⟩) ∧ W.cell? ⟨M, 1, none⟩ = some (.int .i64 1) ∧ W.cell? ⟨M, 1 + 1, none⟩ = some (.string ⟨#[]⟩) ∧ W.cell? ⟨M, 1 + 2, none⟩ = some (.slice none 0 0) := fun W h => by
        refine ⟨?_, ?_, ?_, ?_⟩ <;> simp [World.cell?, h]
      have HQ := Lib.hid hq
      have hble : b ≤ wo.heap.size := Nat.le_trans HLE.out BW.out.size
      have hbm : b < M := by rw [hM]; exact Bd.lt HB.out
      have H1 := Lib.hid (show W1.heap[M]? = some (.cells #[.string ⟨#[]⟩, .int .i64 1, .string ⟨#[]⟩, .slice none 0 0] 66) ∧ Bd b b [102, 32, 49, 10, 9, 48, 32, 120, 32, 105, 110, 116, 10] W1 ∧ Below b W0 W1 ∧ b ≤ W1.heap.size ∧ b < M ∧ M < W1.heap.size from ⟨hbx1, builder_below HB.out hb1, BW.out.trans (hb1.mono hble), Nat.le_trans hble hb1.size, hbm, blk_lt hbx1⟩)
      obtain ⟨m0, m1, m2, m3⟩ := hq W1 hbx1
      clear hM hb1 hbx1 hs1 hq hble hbm g0 g1 g2 g3
      refine wp_region_held_drew (S := (fun w' => w'.cell? ⟨M, 0, none⟩ = some (.string ⟨#[]⟩) ∧ w'.cell? ⟨M, 1, none⟩ = some (.int .i64 1) ∧ w'.cell? ⟨M, 1 + 1, none⟩ = some (.string ⟨#[]⟩) ∧ w'.cell? ⟨M, 1 + 2, none⟩ = some (.slice none 0 0))) (by kernel_rfl) ?_ (fun hHeld => ?_)
      · exact ⟨m0, m1, m2, m3⟩
      clear m0 m1 m2 m3
      refine wpAnyH_take (i := 0) (oi := { dst := some 28, op := Op.move (Operand.tmp 4), type := 114, pos := "mir.go:48", after := #[], guard := none }) (v := ?vq0_12) rfl (by kernel_rfl) (by kernel_rfl) (by kernel_rfl) (fun _ _ _ h => h) (Or.inl ⟨by rfl, ?hq0_12⟩) (by assumption) ?_
      case hq0_12 => intro w hSw; (try dsimp only at hSw); go_simp; try (with_reducible rfl)
      (try simp only [Act.put, qA, qB, qC])
      refine wpAnyH_take (i := 1) (oi := { dst := some 29, op := Op.move (Operand.tmp 5), type := 3, pos := "mir.go:48", after := #[], guard := none }) (v := ?vq1_13) rfl (by kernel_rfl) (by kernel_rfl) (by kernel_rfl) (fun _ _ _ h => h) (Or.inl ⟨by rfl, ?hq1_13⟩) (by assumption) ?_
      case hq1_13 => intro w hSw; (try dsimp only at hSw); go_simp; try (with_reducible rfl)
      (try simp only [Act.put, qA, qB, qC])
      refine wpAnyH_take (i := 3) (oi := { dst := some 31, op := Op.fieldAddr 66 (Operand.tmp 6) 0, type := 0, pos := "mir.go:48", after := #[], guard := none }) (v := ?vq3_14) rfl (by kernel_rfl) (by kernel_rfl) (by kernel_rfl) (fun _ _ _ h => h) (Or.inl ⟨by rfl, ?hq3_14⟩) (by assumption) ?_
      case hq3_14 => intro w hSw; (try dsimp only at hSw); go_simp; try (with_reducible rfl)
      (try simp only [Act.put, qA, qB, qC])
      refine wpAnyH_take (i := 4) (oi := { dst := some 32, op := Op.load 9 (Operand.tmp 31), type := 9, pos := "mir.go:48", after := #[{ on := 3, ground := Ground.data }], guard := none }) (v := ?vq4_15) rfl (by kernel_rfl) (by kernel_rfl) (by kernel_rfl) (fun _ _ _ h => h) (Or.inl ⟨by rfl, ?hq4_15⟩) (by assumption) ?_
      case hq4_15 => intro w hSw; (try dsimp only at hSw); go_simp; try (with_reducible rfl)
      (try simp only [Act.put, qA, qB, qC])
      refine wpAnyH_take (i := 5) (oi := { dst := some 33, op := Op.fieldAddr 66 (Operand.tmp 6) 1, type := 0, pos := "mir.go:48", after := #[], guard := none }) (v := ?vq5_16) rfl (by kernel_rfl) (by kernel_rfl) (by kernel_rfl) (fun _ _ _ h => h) (Or.inl ⟨by rfl, ?hq5_16⟩) (by assumption) ?_
      case hq5_16 => intro w hSw; (try dsimp only at hSw); go_simp; try (with_reducible rfl)
      (try simp only [Act.put, qA, qB, qC])
      refine wpAnyH_take (i := 6) (oi := { dst := some 34, op := Op.load 46 (Operand.tmp 33), type := 46, pos := "mir.go:48", after := #[{ on := 5, ground := Ground.data }], guard := none }) (v := ?vq6_17) rfl (by kernel_rfl) (by kernel_rfl) (by kernel_rfl) (fun _ _ _ h => h) (Or.inl ⟨by rfl, ?hq6_17⟩) (by assumption) ?_
      case hq6_17 => intro w hSw; (try dsimp only at hSw); go_simp; try (with_reducible rfl)
      (try simp only [Act.put, qA, qB, qC])
      refine wpAnyH_ready (rs := [2]) (by kernel_rfl) (by simp) ?_
      refine AllReadyH.cons (o := { dst := some 30, op := Op.call { callee := Callee.value (Operand.func 43), args := #[Operand.tmp 29], argTypes := #[3] }, type := 9, pos := "mir.go:48", after := #[{ on := 1, ground := Ground.data }], guard := none }) rfl (fun K hK => ?_) AllReadyH.nil
      go_simp
      refine (itoa1 _).mono ?_
      rintro e X1 ⟨rfl, hx1⟩
      rw [hx1]
      clear hx1
      refine hK.out _ _ ?_ (fun hHeld => ?_)
      · exact HQ.out W1.drew H1.out.1
      clear hK K
      (try simp only [Act.put, qA, qB, qC])
      refine wpAnyH_ready (rs := [7]) (by kernel_rfl) (by simp) ?_
      refine AllReadyH.cons (o := { dst := some 35, op := Op.call { callee := Callee.value (Operand.func 44), args := #[Operand.tmp 34], argTypes := #[46] }, type := 9, pos := "mir.go:48", after := #[{ on := 6, ground := Ground.data }, { on := 2, ground := Ground.chain }], guard := none }) rfl (fun K hK => ?_) AllReadyH.nil
      go_simp
      refine (typeInt_any _).mono ?_
      rintro e X1 ⟨rfl, hx1⟩
      have HX1 := Lib.hid (show Below W1.heap.size W1 X1 from (show Below W1.heap.size W1 W1.drew from ⟨rfl, rfl, rfl, Nat.le_refl _, fun _ _ => rfl⟩).trans hx1)
      clear hx1
      refine hK.out _ _ ?_ (fun hHeld => ?_)
      · exact HQ.out X1 ((HX1.out.block M H1.out.2.2.2.2.2).trans H1.out.1)
      clear hK K
      (try simp only [Act.put, qA, qB, qC])
      refine wpAnyH_ready (rs := [8]) (by kernel_rfl) (by simp) ?_
      refine AllReadyH.cons (o := { dst := some 36, op := Op.buildSlice 108 6 #[(0, Operand.const (Value.string { data := #[9] })), (1, Operand.tmp 30), (2, Operand.const (Value.string { data := #[32] })), (3, Operand.tmp 32), (4, Operand.const (Value.string { data := #[32] })), (5, Operand.tmp 35)], type := 108, pos := "mir.go:48", after := #[{ on := 2, ground := Ground.data }, { on := 4, ground := Ground.data }, { on := 7, ground := Ground.data }], guard := none }) rfl (fun K hK => ?_) AllReadyH.nil
      go_simp
      obtain ⟨KX2, hKX2⟩ : ∃ k, k = X1.heap.size := ⟨_, rfl⟩
      obtain ⟨X2, hX2⟩ : ∃ W, W = (X1.alloc (.cells #[.string ⟨#[9]⟩, .string ⟨#[49]⟩, .string ⟨#[32]⟩, .string ⟨#[]⟩, .string ⟨#[32]⟩, .string ⟨#[105, 110, 116]⟩] 9)) := ⟨_, rfl⟩
      rw [← hX2, ← hKX2]
      have hbX2 : Below X1.heap.size X1 X2 := by rw [hX2]; exact (alloc_below _ _)
      have hxX2 : X2.heap[KX2]? = some (.cells #[.string ⟨#[9]⟩, .string ⟨#[49]⟩, .string ⟨#[32]⟩, .string ⟨#[]⟩, .string ⟨#[32]⟩, .string ⟨#[105, 110, 116]⟩] 9) := by rw [hX2, hKX2]; exact heap_alloc_new _ _
      have HXX2 := Lib.hid (And.intro hbX2 (And.intro hxX2 (show KX2 = X1.heap.size from hKX2)))
      clear hX2 hKX2 hbX2 hxX2
      refine hK.out _ _ ?_ (fun hHeld => ?_)
      · exact HQ.out X2 (((HX1.out.trans (HXX2.out.1.mono HX1.out.size)).block M H1.out.2.2.2.2.2).trans H1.out.1)
      clear hK K
      (try simp only [Act.put, qA, qB, qC])
      refine wpAnyH_ready (rs := [9]) (by kernel_rfl) (by simp) ?_
      refine AllReadyH.cons (o := { dst := some 37, op := Op.call { callee := Callee.value (Operand.tmp 28), args := #[Operand.tmp 36], argTypes := #[108] }, type := 0, pos := "mir.go:48", after := #[{ on := 0, ground := Ground.data }, { on := 8, ground := Ground.data }, { on := 7, ground := Ground.chain }], guard := none }) rfl (fun K hK => ?_) AllReadyH.nil
      go_simp
      refine (mline_any b b KX2 6 [102, 32, 49, 10, 9, 48, 32, 120, 32, 105, 110, 116, 10] [⟨#[9]⟩, ⟨#[49]⟩, ⟨#[32]⟩, ⟨#[]⟩, ⟨#[32]⟩, ⟨#[105, 110, 116]⟩] X2 (builder_below H1.out.2.1 (HX1.out.trans (HXX2.out.1.mono HX1.out.size))) HXX2.out.2.1 (by have h1 := H1.out.2.2.2.2; have h2 := HXX2.out.2.2; have h3 := HX1.out.size; omega) (by have h1 := H1.out.2.2.2.1; have h2 := HXX2.out.1.size; have h3 := HX1.out.size; omega) (by decide) (by decide)).mono ?_
      rintro e X3 ⟨rfl, h3, k3⟩
      have HX3 := Lib.hid (show Bd b b [102, 32, 49, 10, 9, 48, 32, 120, 32, 105, 110, 116, 10, 9, 49, 32, 32, 105, 110, 116, 10] X3 ∧ Below b W0 X3 ∧ X3.heap[M]? = some (.cells #[.string ⟨#[]⟩, .int .i64 1, .string ⟨#[]⟩, .slice none 0 0] 66) from ⟨h3, (H1.out.2.2.1.trans ((HX1.out.trans (HXX2.out.1.mono HX1.out.size)).mono H1.out.2.2.2.1)).trans k3.below, Kp.block k3 (((HX1.out.trans (HXX2.out.1.mono HX1.out.size)).block M H1.out.2.2.2.2.2).trans H1.out.1) (by have h := H1.out.2.2.2.2.1; omega) (by decide)⟩)
      clear h3 k3
      refine hK.out _ _ ?_ (fun hHeld => ?_)
      · exact HQ.out X3 HX3.out.2.2
      clear hK K
      (try simp only [Act.put, qA, qB, qC])
      refine wpAnyH_done (by kernel_rfl) ?_ _
      go_wp2
      go_roundw
      case rel => exact ⟨2, rfl, Or.inr (Or.inr ⟨rfl, HX3.out.1⟩), HX3.out.2.1⟩
      case measure => simp [intOf]
    · have HB := Lib.hid hB
      clear hB
      have hbq := (HKP.out wo BW.out).2.2
      obtain ⟨p0, p1, p2, p3, pf, pl⟩ := cells4p (HKP.out wo BW.out).1
      clear hpl
      have HBQ := Lib.hid hbq
      clear hbq
      go_wp2_with fail
      clear p0 p1 p2 p3 pf pl
      go_loopw [42] (fun u wr => ∃ z : Int, u = .int .i64 z ∧ ((z = 0 ∧ Bd b b [102, 32, 49, 10, 9, 48, 32, 120, 32, 105, 110, 116, 10, 9, 49, 32, 32, 105, 110, 116, 10] wr) ∨ (z = 1 ∧ Bd b b [102, 32, 49, 10, 9, 48, 32, 120, 32, 105, 110, 116, 10, 9, 49, 32, 32, 105, 110, 116, 10, 98, 108, 111, 99, 107, 32, 48, 10, 9, 114, 101, 116, 117, 114, 110, 32, 99, 111, 112, 121, 32, 48, 10] wr)) ∧ Below b W0 wr) (fun u _ => (1 - intOf u).toNat)
      case atStart => exact ⟨0, rfl, Or.inl ⟨rfl, HB.out⟩, BW.out⟩
      case round =>
        clear HB BW HBQ
        obtain ⟨z, rfl, hz, hbw⟩ := hrel
        have BW := Lib.hid hbw
        have GX := Lib.hid (rangeAt_of_box (cs := [.slice none 0 0, .int .i64 3, .int .i64 0, .int .i64 0, .slice none 0 0, .int .i64 0, .slice none 0 0, .int .i64 0, .slice none 0 0, .int .i64 0, .int .i64 0, .bool false, .int .i64 0, .bool false, .int .i64 0, .slice none 0 0, .slice none 0 0]) (HKP.out wr hbw).2.2)
        have hble := Lib.hid (show b ≤ wr.heap.size from Nat.le_trans HLE.out hbw.size)
        obtain ⟨wq, rfl⟩ : ∃ wo, wo = wr := ⟨_, rfl⟩
        clear hbw
        rcases hz with ⟨rfl, hB⟩ | ⟨rfl, hB⟩
        · have HB := Lib.hid hB
          clear hB
          have HONE := Lib.hid (show ∀ v ∈ ([.slice none 0 0, .int .i64 3, .int .i64 0, .int .i64 0, .slice none 0 0, .int .i64 0, .slice none 0 0, .int .i64 0, .slice none 0 0, .int .i64 0, .int .i64 0, .bool false, .int .i64 0, .bool false, .int .i64 0, .slice none 0 0, .slice none 0 0] : List Value), v.oneCell' = true from by first | decide | (intro v hv; simp at hv; repeat (first | (rcases hv with rfl | hv; · rfl) | (subst hv; rfl))))
          go_upto_region 12 with
            (first
              | (go_loud (refine wpList_load_mid rfl 60 (.tmp 45) rfl q 0 rfl [.slice none 0 0, .int .i64 3, .int .i64 0, .int .i64 0, .slice none 0 0, .int .i64 0, .slice none 0 0, .int .i64 0, .slice none 0 0, .int .i64 0, .int .i64 0, .bool false, .int .i64 0, .bool false, .int .i64 0, .slice none 0 0, .slice none 0 0] _ GX.out Tryz.underlying60 rfl (show (Tryz.prog.info? 60).map (·.size) = some 17 by kernel_rfl) ?_))
              | (go_loud (refine wpList_store_new2 rfl 60 (.tmp 8) (.tmp 46) rfl wq _ _ wq.heap.size rfl rfl [.slice none 0 0, .int .i64 3, .int .i64 0, .int .i64 0, .slice none 0 0, .int .i64 0, .slice none 0 0, .int .i64 0, .slice none 0 0, .int .i64 0, .int .i64 0, .bool false, .int .i64 0, .bool false, .int .i64 0, .slice none 0 0, .slice none 0 0] rfl rfl (show (Tryz.prog.info? 60).map (·.size) = some 17 by kernel_rfl) HONE.out ?_; intro W1 hb1 hbx1 hs1)))
          obtain ⟨M, hM⟩ : ∃ M, M = wq.heap.size := ⟨_, rfl⟩
          rw [← hM] at hbx1
          try simp only [← hM]
          have hbm : b < M := by rw [hM]; exact Bd.lt HB.out
          have H1 := Lib.hid (show W1.heap[M]? = some (.cells ([.slice none 0 0, .int .i64 3, .int .i64 0, .int .i64 0, .slice none 0 0, .int .i64 0, .slice none 0 0, .int .i64 0, .slice none 0 0, .int .i64 0, .int .i64 0, .bool false, .int .i64 0, .bool false, .int .i64 0, .slice none 0 0, .slice none 0 0] : List Value).toArray 60) ∧ Bd b b [102, 32, 49, 10, 9, 48, 32, 120, 32, 105, 110, 116, 10, 9, 49, 32, 32, 105, 110, 116, 10] W1 ∧ Below b W0 W1 ∧ b ≤ W1.heap.size ∧ b < M from ⟨hbx1, builder_below HB.out hb1, BW.out.trans (hb1.mono hble.out), Nat.le_trans hble.out hb1.size, hbm⟩)
          clear hM hb1 hbx1 hs1 hbm
          have HLA := Lib.hid (alloc_below W1 (.cells #[.string ⟨#[98, 108, 111, 99, 107, 32]⟩, .string ⟨#[48]⟩] 9))
          go_upto_region 13 with
            (first
              | (go_loud (go_at_call 43; refine (itoa0 _).mono ?_; rintro e X1 ⟨rfl, hx1⟩; rw [hx1]; clear hx1))
              | (go_loud (go_at_call 40; refine (mline_any b b W1.heap.size 2 [102, 32, 49, 10, 9, 48, 32, 120, 32, 105, 110, 116, 10, 9, 49, 32, 32, 105, 110, 116, 10] [⟨#[98, 108, 111, 99, 107, 32]⟩, ⟨#[48]⟩] (W1.alloc (.cells #[.string ⟨#[98, 108, 111, 99, 107, 32]⟩, .string ⟨#[48]⟩] 9)) (builder_below H1.out.2.1 HLA.out) (heap_alloc_new _ _) (by have h1 := Bd.lt H1.out.2.1; omega) (by have h1 := H1.out.2.2.2.1; have h2 := HLA.out.size; omega) (by decide) (by decide)).mono ?_; rintro e X3 ⟨rfl, h3, k3⟩; have HX3 := Lib.hid (show Bd b b [102, 32, 49, 10, 9, 48, 32, 120, 32, 105, 110, 116, 10, 9, 49, 32, 32, 105, 110, 116, 10, 98, 108, 111, 99, 107, 32, 48, 10] X3 ∧ Below b W0 X3 ∧ X3.heap[M]? = some (.cells ([.slice none 0 0, .int .i64 3, .int .i64 0, .int .i64 0, .slice none 0 0, .int .i64 0, .slice none 0 0, .int .i64 0, .slice none 0 0, .int .i64 0, .int .i64 0, .bool false, .int .i64 0, .bool false, .int .i64 0, .slice none 0 0, .slice none 0 0] : List Value).toArray 60) from ⟨h3, (H1.out.2.2.1.trans (HLA.out.mono H1.out.2.2.2.1)).trans k3.below, Kp.block k3 ((HLA.out.block M (blk_lt H1.out.1)).trans H1.out.1) (by have h := H1.out.2.2.2.2; omega) (by decide)⟩); clear h3 k3)))
          have c0 : X3.cell? ⟨M, 0, none⟩ = some (.slice none 0 0) := rangeAt_of_box HX3.out.2.2 0 _ rfl
          have GT := Lib.hid (show X3.rangeAt M 1 [.int .i64 3, .int .i64 0, .int .i64 0, .slice none 0 0, .int .i64 0, .slice none 0 0, .int .i64 0, .slice none 0 0, .int .i64 0, .int .i64 0, .bool false, .int .i64 0, .bool false, .int .i64 0, .slice none 0 0, .slice none 0 0] from fun j u hu => by
            have h2 := rangeAt_of_box HX3.out.2.2 (1 + j) u (by rw [Nat.add_comm]; exact hu)
            rw [Nat.zero_add] at h2
            exact h2)
          have hbx : b ≤ X3.heap.size := Nat.le_trans HLE.out HX3.out.2.1.size
          have HTE := Lib.hid (tellRet b b [102, 32, 49, 10, 9, 48, 32, 120, 32, 105, 110, 116, 10, 9, 49, 32, 32, 105, 110, 116, 10, 98, 108, 111, 99, 107, 32, 48, 10] X3 HX3.out.1 hbx (by decide))
          clear hbx
          go_wp2_with fail
          clear c0
          go_loopw [55] (fun u wr => u = .int .i64 0 ∧ wr = X3) (fun _ _ => 0)
          case atStart => exact ⟨rfl, rfl⟩
          case round =>
            obtain ⟨rfl, rfl⟩ := hrel
            go_wp2_with
              (first
                | (go_loud (refine wpList_load_mid rfl 57 (.tmp 63) rfl M 1 rfl [.int .i64 3, .int .i64 0, .int .i64 0, .slice none 0 0, .int .i64 0, .slice none 0 0, .int .i64 0, .slice none 0 0, .int .i64 0, .int .i64 0, .bool false, .int .i64 0, .bool false, .int .i64 0, .slice none 0 0, .slice none 0 0] _ GT.out Tryz.underlying57 rfl (show (Tryz.prog.info? 57).map (·.size) = some 16 by kernel_rfl) ?_))
                | (go_loud (go_at_call 46; refine HTE.out.mono ?_; rintro e X4 ⟨rfl, h4, k4⟩; have HX4 := Lib.hid (show Bd b b [102, 32, 49, 10, 9, 48, 32, 120, 32, 105, 110, 116, 10, 9, 49, 32, 32, 105, 110, 116, 10, 98, 108, 111, 99, 107, 32, 48, 10, 9, 114, 101, 116, 117, 114, 110, 32, 99, 111, 112, 121, 32, 48, 10] X4 ∧ Below b W0 X4 from ⟨h4, HX3.out.2.1.trans k4.below⟩); clear h4 k4)))
            go_roundw
            case rel => exact ⟨1, rfl, Or.inr ⟨rfl, HX4.out.1⟩, HX4.out.2⟩
            case measure => simp [intOf]
        · have HST := Lib.hid (Tryz.Builder_String_any_f b b [102, 32, 49, 10, 9, 48, 32, 120, 32, 105, 110, 116, 10, 9, 49, 32, 32, 105, 110, 116, 10, 98, 108, 111, 99, 107, 32, 48, 10, 9, 114, 101, 116, 117, 114, 110, 32, 99, 111, 112, 121, 32, 48, 10] wq hB hble.out)
          clear hB
          go_wp2_with (go_loud (go_at_call 47; refine HST.out.mono ?_; rintro e X4 ⟨rfl, -, hb4⟩; have HB4 := Lib.hid hb4; clear hb4))
          go_ret
          refine ⟨rfl, ?_⟩
          have h1 : Below b (World.alloc V0 (.cells #[.pointer none, .slice none 0 0] 107)) (World.alloc V0 (.cells #[.pointer none, .slice none 0 0] 107)) := Below.refl _ _
          have h := HB0.out.1.trans (((HB0.out.2.1.trans (BW.out.trans HB4.out))).mono (show N ≤ b by have h2 := HBB.out.2.1; omega))
          rw [← HBB.out.2.2]
          exact h

end Go.Proofs.YtghkbihgdabamaaGreatDoor
