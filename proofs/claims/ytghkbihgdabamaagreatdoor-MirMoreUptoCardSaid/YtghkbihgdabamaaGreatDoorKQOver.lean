/-
  LargeTy and Over, of the statements' own: they answer, whatever they answer. Conditions: the type, the body lie in the heap.
-/
import Derived.Test.YtghkbihgdabamaaGreatDoorKQLarge
import Derived.Test.YtghkbihgdabamaaGreatDoorKBModel
import Derived.Test.YtghkbihgdabamaaGreatDoorKQIntoA
import Derived.Test.YtghkbihgdabamaaGreatDoorKPRes
namespace Go.Proofs.YtghkbihgdabamaaGreatDoor
open Go.RowKit

set_option maxRecDepth 100000 in
set_option maxHeartbeats 4000000 in
theorem largeTy_any (n : Nat) (t : Ty5) (z : Int) (w : World) (hT : TyH n w t) : Calls Tryz.prog 23 #[tyV t, .int .i64 z] w fun e w' => SomeBL e ∧ Below w.heap.size w w' := by
  have hc := fun W h => tySize_any n t W (TyH.below n hT h)
  obtain ⟨k, nm, h, l⟩ := t
  simp only [tyV, tyC] at hc ⊢
  obtain ⟨W0, hW⟩ : ∃ W, W = w.alloc (.cells #[.int .i64 k, .string nm, .slice h.oa l.length h.cap] 46) := ⟨_, rfl⟩
  have hb0 : Below w.heap.size w W0 := by rw [hW]; exact alloc_below _ _
  have hx0 : W0.heap[w.heap.size]? = some (.cells #[.int .i64 k, .string nm, .slice h.oa l.length h.cap] 46) := by rw [hW]; exact heap_alloc_new _ _
  obtain ⟨y0, y1, y2, -, -⟩ := cells3L hx0
  have HC := Lib.hid (hc W0 hb0)
  have HB0 := Lib.hid hb0
  clear hT hc hb0 hx0
  go_enter Tryz.func23, Tryz.ntmps23
  go_upto_region 1 with fail
  rw [← hW]
  clear hW
  go_wp2_with (go_loud (go_at_call 21; refine HC.out.mono ?_; rintro e W1 ⟨⟨z1, rfl⟩, hb1⟩; have HB1 := Lib.hid (HB0.out.trans (hb1.mono HB0.out.size)); clear hb1))
  go_ret
  exact ⟨⟨_, rfl⟩, HB1.out⟩
theorem info_inO : (Tryz.prog.info? 84).map (·.size) = some 15 := by kernel_rfl
theorem siC_one (x : Si) : ∀ v ∈ siC x, v.oneCell' = true := by
  obtain ⟨k, pos, ⟨a, b, c⟩, ⟨d, e, f, ⟨a2, b2, c2⟩, g, h⟩, ⟨i, j, l, ⟨a3, b3, c3⟩⟩⟩ := x
  intro v hv
  simp [siC, spC, vaC, usC] at hv
  rcases hv with rfl | rfl | rfl | rfl | rfl | rfl | rfl | rfl | rfl | rfl | rfl | rfl | rfl | rfl | rfl <;> rfl
set_option maxRecDepth 100000 in
set_option maxHeartbeats 16000000 in
theorem over_any (n : Nat) (b : Bo) (most : Int) (w : World) (hb : BoH n w b) : Calls Tryz.prog 10 #[boV b, .int .i64 most] w fun e w' => SomeBL e ∧ Below w.heap.size w w' := by
  obtain ⟨bnm, bpa, ⟨lo, lc⟩, ls, ⟨bo, bc⟩, bs⟩ := b
  obtain ⟨-, ⟨l1, l2, l3, l4⟩, ⟨b1, b2, b3, b4⟩⟩ := hb
  dsimp only at l1 l2 l3 l4 b1 b2 b3 b4
  unfold maxLen at l2 b2
  obtain ⟨nl, hnl⟩ : ∃ n, ls.length = n := ⟨_, rfl⟩
  obtain ⟨nb, hnb⟩ : ∃ n, bs.length = n := ⟨_, rfl⟩
  simp only [boV, boC]
  rw [hnl] at l1 l3 ⊢
  rw [hnb] at b1 b3 ⊢
  have HNL := Lib.hid hnl
  have HNB := Lib.hid hnb
  replace l3 := Lib.hid l3
  replace l4 := Lib.hid l4
  replace b3 := Lib.hid b3
  replace b4 := Lib.hid b4
  obtain ⟨W0, hW⟩ : ∃ W, W = w.alloc (.cells #[.string bnm, .int .i64 bpa, .slice lo nl lc, .slice bo nb bc] 30) := ⟨_, rfl⟩
  have hb0 : Below w.heap.size w W0 := by rw [hW]; exact alloc_below _ _
  have hx0 : W0.heap[w.heap.size]? = some (.cells #[.string bnm, .int .i64 bpa, .slice lo nl lc, .slice bo nb bc] 30) := by rw [hW]; exact heap_alloc_new _ _
  obtain ⟨N, hN⟩ : ∃ N, N = w.heap.size := ⟨_, rfl⟩
  rw [← hN] at hx0
  have HB0 := Lib.hid (And.intro hb0 hx0)
  have HN := Lib.hid hN
  obtain ⟨y0, y1, y2, y3, yf, yl⟩ := cells4p hx0
  have HLB := Lib.hid (And.intro l1 l2)
  have HBB := Lib.hid (And.intro b1 b2)
  clear hb0 hx0 hnl hnb l1 l2 b1 b2
  go_enter Tryz.func10, Tryz.ntmps10
  go_upto_region 1 with fail
  rw [← hW]
  clear hW
  try simp only [← hN]
  clear hN
  go_wp2_with fail
  clear y0 y1 y2 y3 yf yl
  go_loopw [6] (fun u wr => ∃ j : Nat, j ≤ nl ∧ u = .int .i64 j ∧ Below w.heap.size w wr ∧ wr.heap[N]? = some (.cells #[.string bnm, .int .i64 bpa, .slice lo nl lc, .slice bo nb bc] 30)) (fun u _ => nl - (intOf u).toNat)
  case atStart => exact ⟨0, by omega, rfl, HB0.out.1, HB0.out.2⟩
  case round =>
    clear HB0
    obtain ⟨j, hj, rfl, hbw, hx⟩ := hrel
    obtain ⟨y0, y1, y2, y3, yf, yl⟩ := cells4p hx
    have HX := Lib.hid (And.intro hbw hx)
    by_cases hjl : j < nl
    · as_aux_lemma =>
      have t1 : decide ((j : Int) < nl) = true := by simp; omega
      obtain ⟨ba, offa, rfl, hlt, hcell⟩ := l3.out (by omega)
      obtain ⟨x, hxj⟩ : ∃ x, ls[j]? = some x := ⟨_, List.getElem?_eq_getElem (by rw [HNL.out]; exact hjl)⟩
      have hmem := l4.out x (List.mem_of_getElem? hxj)
      obtain ⟨xnm, ⟨k1, nm1, h1, tl1⟩⟩ := x
      have hc := largeTy_any n (.mk k1 nm1 h1 tl1) 40 wr (TyH.below n hmem hbw)
      simp only [tyV, tyC] at hc
      have HC := Lib.hid hc
      have g0 : wr.cell? ⟨ba, offa + j * 4 + 1, none⟩ = some (.int .i64 k1) := (hbw.cell (p := ⟨ba, offa + j * 4 + 1, none⟩) hlt).trans (by simpa using hcell j _ hxj 1 _ rfl)
      have g1 : wr.cell? ⟨ba, offa + j * 4 + 1 + 1, none⟩ = some (.string nm1) := (hbw.cell (p := ⟨ba, offa + j * 4 + 1 + 1, none⟩) hlt).trans (by simpa using hcell j _ hxj 2 _ rfl)
      have g2 : wr.cell? ⟨ba, offa + j * 4 + 1 + 2, none⟩ = some (.slice h1.oa tl1.length h1.cap) := (hbw.cell (p := ⟨ba, offa + j * 4 + 1 + 2, none⟩) hlt).trans (by simpa using hcell j _ hxj 3 _ rfl)
      clear hxj hcell hmem hc hx hbw
      obtain ⟨hz1, hz2⟩ := HLB.out
      go_upto_region 6 with (go_loud (go_at_call 23; refine HC.out.mono ?_; rintro e W1 ⟨⟨B1, rfl⟩, hb1⟩; have HB1 := Lib.hid (And.intro (HX.out.1.trans (hb1.mono HX.out.1.size)) ((hb1.block N (blk_lt HX.out.2)).trans HX.out.2)); clear hb1))
      · go_wp2
        go_ret
        exact ⟨⟨_, rfl⟩, HB1.out.1⟩
      · go_roundw
        case rel => exact ⟨j + 1, by omega, by go_num, HB1.out.1, HB1.out.2⟩
        case measure => simp [intOf]; omega
    · have t1 : decide ((j : Int) < nl) = false := by simp; omega
      obtain rfl : nl = j := by omega
      clear t1 hjl hx hbw
      go_wp2_with fail
      clear y0 y1 y2 y3 yf yl
      go_loopw [5, 7, 8, 9, 10] (fun s u _ _ _ wr => (∃ z : Int, s = .int .i64 z) ∧ ∃ j : Nat, j ≤ nb ∧ u = .int .i64 j ∧ Below w.heap.size w wr ∧ wr.heap[N]? = some (.cells #[.string bnm, .int .i64 bpa, .slice lo nl lc, .slice bo nb bc] 30)) (fun _ u _ _ _ _ => nb - (intOf u).toNat)
      case atStart => exact ⟨⟨_, rfl⟩, 0, by omega, rfl, HX.out.1, HX.out.2⟩
      case round =>
        clear HX
        obtain ⟨⟨z2, rfl⟩, i, hi, rfl, hbw, hx⟩ := hrel
        obtain ⟨y0, y1, y2, y3, yf, yl⟩ := cells4p hx
        have HX := Lib.hid (And.intro hbw hx)
        obtain ⟨wo, rfl⟩ : ∃ wo : World, wo = wr := ⟨_, rfl⟩
        by_cases hil : i < nb
        · as_aux_lemma =>
          have t2 : decide ((i : Int) < nb) = true := by simp; omega
          obtain ⟨ba, offa, rfl, hlt, hcell⟩ := b3.out (by omega)
          obtain ⟨x, hxj⟩ : ∃ x, bs[i]? = some x := ⟨_, List.getElem?_eq_getElem (by rw [HNB.out]; exact hil)⟩
          have hmem := b4.out x (List.mem_of_getElem? hxj)
          obtain ⟨⟨io, ic⟩, ins, ⟨tk, tp, ⟨ta, ⟨to1, tc1⟩, tpath⟩, ⟨td, te, tf, ⟨ta2, tb2, tc2⟩, tg, th⟩, ⟨ti, tj, tl, ⟨ta3, ⟨to3, tc3⟩, tpath3⟩⟩, ⟨to4, tc4⟩, tos⟩⟩ := x
          obtain ⟨⟨i1, i2, i3, i4⟩, -⟩ := hmem
          dsimp only at i1 i2 i3 i4
          unfold maxLen at i2
          obtain ⟨ni, hni⟩ : ∃ n, ins.length = n := ⟨_, rfl⟩
          have hqc : ∀ W, Below w.heap.size w W → W.cell? ⟨ba, offa + i * 17, none⟩ = some (.slice io ni ic) ∧ W.cell? ⟨ba, offa + i * 17 + 1 + 15, none⟩ = some (.slice to4 tos.length tc4) ∧ W.cell? ⟨ba, offa + i * 17 + 1 + 2 + 1, none⟩ = some (.slice to1 tpath.length tc1) ∧ W.cell? ⟨ba, offa + i * 17 + 1 + 10 + 3 + 1, none⟩ = some (.slice to3 tpath3.length tc3) := fun W h => by
            refine ⟨(h.cell (p := ⟨ba, offa + i * 17, none⟩) hlt).trans ?_, (h.cell (p := ⟨ba, offa + i * 17 + 1 + 15, none⟩) hlt).trans ?_, (h.cell (p := ⟨ba, offa + i * 17 + 1 + 2 + 1, none⟩) hlt).trans ?_, (h.cell (p := ⟨ba, offa + i * 17 + 1 + 10 + 3 + 1, none⟩) hlt).trans ?_⟩
            · rw [← hni]; simpa using hcell i _ hxj 0 _ rfl
            · simpa using hcell i _ hxj 16 _ rfl
            · simpa using hcell i _ hxj 4 _ rfl
            · simpa using hcell i _ hxj 15 _ rfl
          have HQC := Lib.hid hqc
          rw [hni] at i1 i3
          have HNI := Lib.hid hni
          have HIB := Lib.hid (And.intro i1 i2)
          clear i1 i2
          replace i3 := Lib.hid i3
          replace i4 := Lib.hid i4
          obtain ⟨q0, q15, q4, q14⟩ := hqc wo hbw
          clear hxj hcell hqc hni hx hbw
          go_wp2_with fail
          refine wp_region_held_drew (S := (fun w' => w'.cell? ⟨N, 3, none⟩ = some (.slice (some ⟨ba, offa, none⟩) nb bc) ∧ w'.cell? ⟨ba, offa + i * 17, none⟩ = some (.slice io ni ic) ∧ w'.cell? ⟨ba, offa + i * 17 + 1 + 15, none⟩ = some (.slice to4 tos.length tc4) ∧ w'.cell? ⟨ba, offa + i * 17 + 1 + 2 + 1, none⟩ = some (.slice to1 tpath.length tc1) ∧ w'.cell? ⟨ba, offa + i * 17 + 1 + 10 + 3 + 1, none⟩ = some (.slice to3 tpath3.length tc3))) (by kernel_rfl) ?_ (fun hHeld => ?_)
          · exact ⟨y3, q0, q15, q4, q14⟩
          clear y0 y1 y2 y3 yf yl q0 q15 q4 q14
          refine wpAnyH_take (i := 0) (oi := { dst := some 39, op := Op.move (Operand.tmp 5), type := 3, pos := "law.go:33", after := #[], guard := none }) (v := ?vq0_1) rfl (by kernel_rfl) (by kernel_rfl) (by kernel_rfl) (fun _ _ _ h => h) (Or.inl ⟨by rfl, ?hq0_1⟩) (by assumption) ?_
          case hq0_1 => intro w hSw; (try dsimp only at hSw); go_simp; try (with_reducible rfl)
          (try simp only [Act.put, qA, qB, qC])
          refine wpAnyH_take (i := 1) (oi := { dst := some 40, op := Op.fieldAddr 30 (Operand.tmp 2) 3, type := 0, pos := "law.go:33", after := #[], guard := none }) (v := ?vq1_2) rfl (by kernel_rfl) (by kernel_rfl) (by kernel_rfl) (fun _ _ _ h => h) (Or.inl ⟨by rfl, ?hq1_2⟩) (by assumption) ?_
          case hq1_2 => intro w hSw; (try dsimp only at hSw); go_simp; try (with_reducible rfl)
          (try simp only [Act.put, qA, qB, qC])
          refine wpAnyH_take (i := 2) (oi := { dst := some 41, op := Op.load 28 (Operand.tmp 40), type := 28, pos := "law.go:33", after := #[{ on := 1, ground := Ground.data }], guard := none }) (v := ?vq2_3) rfl (by kernel_rfl) (by kernel_rfl) (by kernel_rfl) (fun _ _ _ h => h) (Or.inl ⟨by rfl, ?hq2_3⟩) (by assumption) ?_
          case hq2_3 => intro w hSw; (try dsimp only at hSw); go_simp; try (with_reducible rfl)
          (try simp only [Act.put, qA, qB, qC])
          refine wpAnyH_take (i := 3) (oi := { dst := some 42, op := Op.move (Operand.tmp 7), type := 3, pos := "law.go:33", after := #[], guard := none }) (v := ?vq3_4) rfl (by kernel_rfl) (by kernel_rfl) (by kernel_rfl) (fun _ _ _ h => h) (Or.inl ⟨by rfl, ?hq3_4⟩) (by assumption) ?_
          case hq3_4 => intro w hSw; (try dsimp only at hSw); go_simp; try (with_reducible rfl)
          (try simp only [Act.put, qA, qB, qC])
          refine wpAnyH_take (i := 4) (oi := { dst := some 43, op := Op.indexAddr 28 (Operand.tmp 41) (Operand.tmp 42), type := 0, pos := "law.go:33", after := #[{ on := 2, ground := Ground.data }, { on := 3, ground := Ground.data }], guard := none }) (v := ?vq4_5) rfl (by kernel_rfl) (by kernel_rfl) (by kernel_rfl) (fun _ _ _ h => h) (Or.inl ⟨by rfl, ?hq4_5⟩) (by assumption) ?_
          case hq4_5 => intro w hSw; (try dsimp only at hSw); go_simp; try (with_reducible rfl)
          (try simp only [Act.put, qA, qB, qC])
          refine wpAnyH_take (i := 5) (oi := { dst := some 44, op := Op.fieldAddr 60 (Operand.tmp 43) 0, type := 0, pos := "law.go:33", after := #[{ on := 4, ground := Ground.data }], guard := none }) (v := ?vq5_6) rfl (by kernel_rfl) (by kernel_rfl) (by kernel_rfl) (fun _ _ _ h => h) (Or.inl ⟨by rfl, ?hq5_6⟩) (by assumption) ?_
          case hq5_6 => intro w hSw; (try dsimp only at hSw); go_simp; try (with_reducible rfl)
          (try simp only [Act.put, qA, qB, qC])
          refine wpAnyH_take (i := 6) (oi := { dst := some 45, op := Op.load 58 (Operand.tmp 44), type := 58, pos := "law.go:33", after := #[{ on := 5, ground := Ground.data }], guard := none }) (v := ?vq6_7) rfl (by kernel_rfl) (by kernel_rfl) (by kernel_rfl) (fun _ _ _ h => h) (Or.inl ⟨by rfl, ?hq6_7⟩) (by assumption) ?_
          case hq6_7 => intro w hSw; (try dsimp only at hSw); go_simp; try (with_reducible rfl)
          (try simp only [Act.put, qA, qB, qC])
          refine wpAnyH_take (i := 7) (oi := { dst := some 46, op := Op.call { callee := Callee.builtin Builtin.len, args := #[Operand.tmp 45], argTypes := #[58] }, type := 3, pos := "law.go:33", after := #[{ on := 6, ground := Ground.data }], guard := none }) (v := ?vq7_8) rfl (by kernel_rfl) (by kernel_rfl) (by kernel_rfl) (fun _ _ _ h => h) (Or.inl ⟨by rfl, ?hq7_8⟩) (by assumption) ?_
          case hq7_8 => intro w hSw; (try dsimp only at hSw); go_simp; try (with_reducible rfl)
          (try simp only [Act.put, qA, qB, qC])
          refine wpAnyH_take (i := 8) (oi := { dst := some 47, op := Op.binOp BinOp.add 3 (Operand.tmp 39) (Operand.tmp 46) 3, type := 3, pos := "law.go:33", after := #[{ on := 0, ground := Ground.data }, { on := 7, ground := Ground.data }], guard := none }) (v := ?vq8_9) rfl (by kernel_rfl) (by kernel_rfl) (by kernel_rfl) (fun _ _ _ h => h) (Or.inl ⟨by rfl, ?hq8_9⟩) (by assumption) ?_
          case hq8_9 => intro w hSw; (try dsimp only at hSw); go_simp; try (with_reducible rfl)
          (try simp only [Act.put, qA, qB, qC])
          refine wpAnyH_take (i := 9) (oi := { dst := some 48, op := Op.fieldAddr 30 (Operand.tmp 2) 3, type := 0, pos := "law.go:33", after := #[], guard := none }) (v := ?vq9_10) rfl (by kernel_rfl) (by kernel_rfl) (by kernel_rfl) (fun _ _ _ h => h) (Or.inl ⟨by rfl, ?hq9_10⟩) (by assumption) ?_
          case hq9_10 => intro w hSw; (try dsimp only at hSw); go_simp; try (with_reducible rfl)
          (try simp only [Act.put, qA, qB, qC])
          refine wpAnyH_take (i := 10) (oi := { dst := some 49, op := Op.load 28 (Operand.tmp 48), type := 28, pos := "law.go:33", after := #[{ on := 9, ground := Ground.data }], guard := none }) (v := ?vq10_11) rfl (by kernel_rfl) (by kernel_rfl) (by kernel_rfl) (fun _ _ _ h => h) (Or.inl ⟨by rfl, ?hq10_11⟩) (by assumption) ?_
          case hq10_11 => intro w hSw; (try dsimp only at hSw); go_simp; try (with_reducible rfl)
          (try simp only [Act.put, qA, qB, qC])
          refine wpAnyH_take (i := 11) (oi := { dst := some 50, op := Op.move (Operand.tmp 7), type := 3, pos := "law.go:33", after := #[], guard := none }) (v := ?vq11_12) rfl (by kernel_rfl) (by kernel_rfl) (by kernel_rfl) (fun _ _ _ h => h) (Or.inl ⟨by rfl, ?hq11_12⟩) (by assumption) ?_
          case hq11_12 => intro w hSw; (try dsimp only at hSw); go_simp; try (with_reducible rfl)
          (try simp only [Act.put, qA, qB, qC])
          refine wpAnyH_take (i := 12) (oi := { dst := some 51, op := Op.indexAddr 28 (Operand.tmp 49) (Operand.tmp 50), type := 0, pos := "law.go:33", after := #[{ on := 10, ground := Ground.data }, { on := 11, ground := Ground.data }], guard := none }) (v := ?vq12_13) rfl (by kernel_rfl) (by kernel_rfl) (by kernel_rfl) (fun _ _ _ h => h) (Or.inl ⟨by rfl, ?hq12_13⟩) (by assumption) ?_
          case hq12_13 => intro w hSw; (try dsimp only at hSw); go_simp; try (with_reducible rfl)
          (try simp only [Act.put, qA, qB, qC])
          refine wpAnyH_take (i := 13) (oi := { dst := some 52, op := Op.fieldAddr 60 (Operand.tmp 51) 1, type := 0, pos := "law.go:33", after := #[{ on := 12, ground := Ground.data }], guard := none }) (v := ?vq13_14) rfl (by kernel_rfl) (by kernel_rfl) (by kernel_rfl) (fun _ _ _ h => h) (Or.inl ⟨by rfl, ?hq13_14⟩) (by assumption) ?_
          case hq13_14 => intro w hSw; (try dsimp only at hSw); go_simp; try (with_reducible rfl)
          (try simp only [Act.put, qA, qB, qC])
          refine wpAnyH_take (i := 14) (oi := { dst := some 53, op := Op.fieldAddr 57 (Operand.tmp 52) 5, type := 0, pos := "law.go:33", after := #[{ on := 13, ground := Ground.data }], guard := none }) (v := ?vq14_15) rfl (by kernel_rfl) (by kernel_rfl) (by kernel_rfl) (fun _ _ _ h => h) (Or.inl ⟨by rfl, ?hq14_15⟩) (by assumption) ?_
          case hq14_15 => intro w hSw; (try dsimp only at hSw); go_simp; try (with_reducible rfl)
          (try simp only [Act.put, qA, qB, qC])
          refine wpAnyH_take (i := 15) (oi := { dst := some 54, op := Op.load 31 (Operand.tmp 53), type := 31, pos := "law.go:33", after := #[{ on := 14, ground := Ground.data }], guard := none }) (v := ?vq15_16) rfl (by kernel_rfl) (by kernel_rfl) (by kernel_rfl) (fun _ _ _ h => h) (Or.inl ⟨by rfl, ?hq15_16⟩) (by assumption) ?_
          case hq15_16 => intro w hSw; (try dsimp only at hSw); go_simp; try (with_reducible rfl)
          (try simp only [Act.put, qA, qB, qC])
          refine wpAnyH_take (i := 16) (oi := { dst := some 55, op := Op.call { callee := Callee.builtin Builtin.len, args := #[Operand.tmp 54], argTypes := #[31] }, type := 3, pos := "law.go:33", after := #[{ on := 15, ground := Ground.data }], guard := none }) (v := ?vq16_17) rfl (by kernel_rfl) (by kernel_rfl) (by kernel_rfl) (fun _ _ _ h => h) (Or.inl ⟨by rfl, ?hq16_17⟩) (by assumption) ?_
          case hq16_17 => intro w hSw; (try dsimp only at hSw); go_simp; try (with_reducible rfl)
          (try simp only [Act.put, qA, qB, qC])
          refine wpAnyH_take (i := 17) (oi := { dst := some 56, op := Op.binOp BinOp.add 3 (Operand.tmp 47) (Operand.tmp 55) 3, type := 3, pos := "law.go:33", after := #[{ on := 8, ground := Ground.data }, { on := 16, ground := Ground.data }], guard := none }) (v := ?vq17_18) rfl (by kernel_rfl) (by kernel_rfl) (by kernel_rfl) (fun _ _ _ h => h) (Or.inl ⟨by rfl, ?hq17_18⟩) (by assumption) ?_
          case hq17_18 => intro w hSw; (try dsimp only at hSw); go_simp; try (with_reducible rfl)
          (try simp only [Act.put, qA, qB, qC])
          refine wpAnyH_take (i := 18) (oi := { dst := some 57, op := Op.fieldAddr 30 (Operand.tmp 2) 3, type := 0, pos := "law.go:33", after := #[], guard := none }) (v := ?vq18_19) rfl (by kernel_rfl) (by kernel_rfl) (by kernel_rfl) (fun _ _ _ h => h) (Or.inl ⟨by rfl, ?hq18_19⟩) (by assumption) ?_
          case hq18_19 => intro w hSw; (try dsimp only at hSw); go_simp; try (with_reducible rfl)
          (try simp only [Act.put, qA, qB, qC])
          refine wpAnyH_take (i := 19) (oi := { dst := some 58, op := Op.load 28 (Operand.tmp 57), type := 28, pos := "law.go:33", after := #[{ on := 18, ground := Ground.data }], guard := none }) (v := ?vq19_20) rfl (by kernel_rfl) (by kernel_rfl) (by kernel_rfl) (fun _ _ _ h => h) (Or.inl ⟨by rfl, ?hq19_20⟩) (by assumption) ?_
          case hq19_20 => intro w hSw; (try dsimp only at hSw); go_simp; try (with_reducible rfl)
          (try simp only [Act.put, qA, qB, qC])
          refine wpAnyH_take (i := 20) (oi := { dst := some 59, op := Op.move (Operand.tmp 7), type := 3, pos := "law.go:33", after := #[], guard := none }) (v := ?vq20_21) rfl (by kernel_rfl) (by kernel_rfl) (by kernel_rfl) (fun _ _ _ h => h) (Or.inl ⟨by rfl, ?hq20_21⟩) (by assumption) ?_
          case hq20_21 => intro w hSw; (try dsimp only at hSw); go_simp; try (with_reducible rfl)
          (try simp only [Act.put, qA, qB, qC])
          refine wpAnyH_take (i := 21) (oi := { dst := some 60, op := Op.indexAddr 28 (Operand.tmp 58) (Operand.tmp 59), type := 0, pos := "law.go:33", after := #[{ on := 19, ground := Ground.data }, { on := 20, ground := Ground.data }], guard := none }) (v := ?vq21_22) rfl (by kernel_rfl) (by kernel_rfl) (by kernel_rfl) (fun _ _ _ h => h) (Or.inl ⟨by rfl, ?hq21_22⟩) (by assumption) ?_
          case hq21_22 => intro w hSw; (try dsimp only at hSw); go_simp; try (with_reducible rfl)
          (try simp only [Act.put, qA, qB, qC])
          refine wpAnyH_take (i := 22) (oi := { dst := some 61, op := Op.fieldAddr 60 (Operand.tmp 60) 1, type := 0, pos := "law.go:33", after := #[{ on := 21, ground := Ground.data }], guard := none }) (v := ?vq22_23) rfl (by kernel_rfl) (by kernel_rfl) (by kernel_rfl) (fun _ _ _ h => h) (Or.inl ⟨by rfl, ?hq22_23⟩) (by assumption) ?_
          case hq22_23 => intro w hSw; (try dsimp only at hSw); go_simp; try (with_reducible rfl)
          (try simp only [Act.put, qA, qB, qC])
          refine wpAnyH_take (i := 23) (oi := { dst := some 62, op := Op.fieldAddr 57 (Operand.tmp 61) 2, type := 0, pos := "law.go:33", after := #[{ on := 22, ground := Ground.data }], guard := none }) (v := ?vq23_24) rfl (by kernel_rfl) (by kernel_rfl) (by kernel_rfl) (fun _ _ _ h => h) (Or.inl ⟨by rfl, ?hq23_24⟩) (by assumption) ?_
          case hq23_24 => intro w hSw; (try dsimp only at hSw); go_simp; try (with_reducible rfl)
          (try simp only [Act.put, qA, qB, qC])
          refine wpAnyH_take (i := 24) (oi := { dst := some 63, op := Op.fieldAddr 33 (Operand.tmp 62) 1, type := 0, pos := "law.go:33", after := #[{ on := 23, ground := Ground.data }], guard := none }) (v := ?vq24_25) rfl (by kernel_rfl) (by kernel_rfl) (by kernel_rfl) (fun _ _ _ h => h) (Or.inl ⟨by rfl, ?hq24_25⟩) (by assumption) ?_
          case hq24_25 => intro w hSw; (try dsimp only at hSw); go_simp; try (with_reducible rfl)
          (try simp only [Act.put, qA, qB, qC])
          refine wpAnyH_take (i := 25) (oi := { dst := some 64, op := Op.load 31 (Operand.tmp 63), type := 31, pos := "law.go:33", after := #[{ on := 24, ground := Ground.data }], guard := none }) (v := ?vq25_26) rfl (by kernel_rfl) (by kernel_rfl) (by kernel_rfl) (fun _ _ _ h => h) (Or.inl ⟨by rfl, ?hq25_26⟩) (by assumption) ?_
          case hq25_26 => intro w hSw; (try dsimp only at hSw); go_simp; try (with_reducible rfl)
          (try simp only [Act.put, qA, qB, qC])
          refine wpAnyH_take (i := 26) (oi := { dst := some 65, op := Op.call { callee := Callee.builtin Builtin.len, args := #[Operand.tmp 64], argTypes := #[31] }, type := 3, pos := "law.go:33", after := #[{ on := 25, ground := Ground.data }], guard := none }) (v := ?vq26_27) rfl (by kernel_rfl) (by kernel_rfl) (by kernel_rfl) (fun _ _ _ h => h) (Or.inl ⟨by rfl, ?hq26_27⟩) (by assumption) ?_
          case hq26_27 => intro w hSw; (try dsimp only at hSw); go_simp; try (with_reducible rfl)
          (try simp only [Act.put, qA, qB, qC])
          refine wpAnyH_take (i := 27) (oi := { dst := some 66, op := Op.binOp BinOp.add 3 (Operand.tmp 56) (Operand.tmp 65) 3, type := 3, pos := "law.go:33", after := #[{ on := 17, ground := Ground.data }, { on := 26, ground := Ground.data }], guard := none }) (v := ?vq27_28) rfl (by kernel_rfl) (by kernel_rfl) (by kernel_rfl) (fun _ _ _ h => h) (Or.inl ⟨by rfl, ?hq27_28⟩) (by assumption) ?_
          case hq27_28 => intro w hSw; (try dsimp only at hSw); go_simp; try (with_reducible rfl)
          (try simp only [Act.put, qA, qB, qC])
          refine wpAnyH_take (i := 28) (oi := { dst := some 67, op := Op.fieldAddr 30 (Operand.tmp 2) 3, type := 0, pos := "law.go:33", after := #[], guard := none }) (v := ?vq28_29) rfl (by kernel_rfl) (by kernel_rfl) (by kernel_rfl) (fun _ _ _ h => h) (Or.inl ⟨by rfl, ?hq28_29⟩) (by assumption) ?_
          case hq28_29 => intro w hSw; (try dsimp only at hSw); go_simp; try (with_reducible rfl)
          (try simp only [Act.put, qA, qB, qC])
          refine wpAnyH_take (i := 29) (oi := { dst := some 68, op := Op.load 28 (Operand.tmp 67), type := 28, pos := "law.go:33", after := #[{ on := 28, ground := Ground.data }], guard := none }) (v := ?vq29_30) rfl (by kernel_rfl) (by kernel_rfl) (by kernel_rfl) (fun _ _ _ h => h) (Or.inl ⟨by rfl, ?hq29_30⟩) (by assumption) ?_
          case hq29_30 => intro w hSw; (try dsimp only at hSw); go_simp; try (with_reducible rfl)
          (try simp only [Act.put, qA, qB, qC])
          refine wpAnyH_take (i := 30) (oi := { dst := some 69, op := Op.move (Operand.tmp 7), type := 3, pos := "law.go:33", after := #[], guard := none }) (v := ?vq30_31) rfl (by kernel_rfl) (by kernel_rfl) (by kernel_rfl) (fun _ _ _ h => h) (Or.inl ⟨by rfl, ?hq30_31⟩) (by assumption) ?_
          case hq30_31 => intro w hSw; (try dsimp only at hSw); go_simp; try (with_reducible rfl)
          (try simp only [Act.put, qA, qB, qC])
          refine wpAnyH_take (i := 31) (oi := { dst := some 70, op := Op.indexAddr 28 (Operand.tmp 68) (Operand.tmp 69), type := 0, pos := "law.go:33", after := #[{ on := 29, ground := Ground.data }, { on := 30, ground := Ground.data }], guard := none }) (v := ?vq31_32) rfl (by kernel_rfl) (by kernel_rfl) (by kernel_rfl) (fun _ _ _ h => h) (Or.inl ⟨by rfl, ?hq31_32⟩) (by assumption) ?_
          case hq31_32 => intro w hSw; (try dsimp only at hSw); go_simp; try (with_reducible rfl)
          (try simp only [Act.put, qA, qB, qC])
          refine wpAnyH_take (i := 32) (oi := { dst := some 71, op := Op.fieldAddr 60 (Operand.tmp 70) 1, type := 0, pos := "law.go:33", after := #[{ on := 31, ground := Ground.data }], guard := none }) (v := ?vq32_33) rfl (by kernel_rfl) (by kernel_rfl) (by kernel_rfl) (fun _ _ _ h => h) (Or.inl ⟨by rfl, ?hq32_33⟩) (by assumption) ?_
          case hq32_33 => intro w hSw; (try dsimp only at hSw); go_simp; try (with_reducible rfl)
          (try simp only [Act.put, qA, qB, qC])
          refine wpAnyH_take (i := 33) (oi := { dst := some 72, op := Op.fieldAddr 57 (Operand.tmp 71) 4, type := 0, pos := "law.go:33", after := #[{ on := 32, ground := Ground.data }], guard := none }) (v := ?vq33_34) rfl (by kernel_rfl) (by kernel_rfl) (by kernel_rfl) (fun _ _ _ h => h) (Or.inl ⟨by rfl, ?hq33_34⟩) (by assumption) ?_
          case hq33_34 => intro w hSw; (try dsimp only at hSw); go_simp; try (with_reducible rfl)
          (try simp only [Act.put, qA, qB, qC])
          refine wpAnyH_take (i := 34) (oi := { dst := some 73, op := Op.fieldAddr 42 (Operand.tmp 72) 3, type := 0, pos := "law.go:33", after := #[{ on := 33, ground := Ground.data }], guard := none }) (v := ?vq34_35) rfl (by kernel_rfl) (by kernel_rfl) (by kernel_rfl) (fun _ _ _ h => h) (Or.inl ⟨by rfl, ?hq34_35⟩) (by assumption) ?_
          case hq34_35 => intro w hSw; (try dsimp only at hSw); go_simp; try (with_reducible rfl)
          (try simp only [Act.put, qA, qB, qC])
          refine wpAnyH_take (i := 35) (oi := { dst := some 74, op := Op.fieldAddr 33 (Operand.tmp 73) 1, type := 0, pos := "law.go:33", after := #[{ on := 34, ground := Ground.data }], guard := none }) (v := ?vq35_36) rfl (by kernel_rfl) (by kernel_rfl) (by kernel_rfl) (fun _ _ _ h => h) (Or.inl ⟨by rfl, ?hq35_36⟩) (by assumption) ?_
          case hq35_36 => intro w hSw; (try dsimp only at hSw); go_simp; try (with_reducible rfl)
          (try simp only [Act.put, qA, qB, qC])
          refine wpAnyH_take (i := 36) (oi := { dst := some 75, op := Op.load 31 (Operand.tmp 74), type := 31, pos := "law.go:33", after := #[{ on := 35, ground := Ground.data }], guard := none }) (v := ?vq36_37) rfl (by kernel_rfl) (by kernel_rfl) (by kernel_rfl) (fun _ _ _ h => h) (Or.inl ⟨by rfl, ?hq36_37⟩) (by assumption) ?_
          case hq36_37 => intro w hSw; (try dsimp only at hSw); go_simp; try (with_reducible rfl)
          (try simp only [Act.put, qA, qB, qC])
          refine wpAnyH_take (i := 37) (oi := { dst := some 76, op := Op.call { callee := Callee.builtin Builtin.len, args := #[Operand.tmp 75], argTypes := #[31] }, type := 3, pos := "law.go:33", after := #[{ on := 36, ground := Ground.data }], guard := none }) (v := ?vq37_38) rfl (by kernel_rfl) (by kernel_rfl) (by kernel_rfl) (fun _ _ _ h => h) (Or.inl ⟨by rfl, ?hq37_38⟩) (by assumption) ?_
          case hq37_38 => intro w hSw; (try dsimp only at hSw); go_simp; try (with_reducible rfl)
          (try simp only [Act.put, qA, qB, qC])
          refine wpAnyH_take (i := 38) (oi := { dst := some 77, op := Op.binOp BinOp.add 3 (Operand.tmp 66) (Operand.tmp 76) 3, type := 3, pos := "law.go:33", after := #[{ on := 27, ground := Ground.data }, { on := 37, ground := Ground.data }], guard := none }) (v := ?vq38_39) rfl (by kernel_rfl) (by kernel_rfl) (by kernel_rfl) (fun _ _ _ h => h) (Or.inl ⟨by rfl, ?hq38_39⟩) (by assumption) ?_
          case hq38_39 => intro w hSw; (try dsimp only at hSw); go_simp; try (with_reducible rfl)
          (try simp only [Act.put, qA, qB, qC])
          refine wpAnyH_take (i := 39) (oi := { dst := some 5, op := Op.assign (Operand.tmp 77), type := 3, pos := "law.go:33", after := #[{ on := 38, ground := Ground.data }, { on := 0, ground := Ground.phase }, { on := 1, ground := Ground.phase }, { on := 2, ground := Ground.phase }, { on := 3, ground := Ground.phase }, { on := 4, ground := Ground.phase }, { on := 5, ground := Ground.phase }, { on := 6, ground := Ground.phase }, { on := 7, ground := Ground.phase }, { on := 8, ground := Ground.phase }, { on := 9, ground := Ground.phase }, { on := 10, ground := Ground.phase }, { on := 11, ground := Ground.phase }, { on := 12, ground := Ground.phase }, { on := 13, ground := Ground.phase }, { on := 14, ground := Ground.phase }, { on := 15, ground := Ground.phase }, { on := 16, ground := Ground.phase }, { on := 17, ground := Ground.phase }, { on := 18, ground := Ground.phase }, { on := 19, ground := Ground.phase }, { on := 20, ground := Ground.phase }, { on := 21, ground := Ground.phase }, { on := 22, ground := Ground.phase }, { on := 23, ground := Ground.phase }, { on := 24, ground := Ground.phase }, { on := 25, ground := Ground.phase }, { on := 26, ground := Ground.phase }, { on := 27, ground := Ground.phase }, { on := 28, ground := Ground.phase }, { on := 29, ground := Ground.phase }, { on := 30, ground := Ground.phase }, { on := 31, ground := Ground.phase }, { on := 32, ground := Ground.phase }, { on := 33, ground := Ground.phase }, { on := 34, ground := Ground.phase }, { on := 35, ground := Ground.phase }, { on := 36, ground := Ground.phase }, { on := 37, ground := Ground.phase }, { on := 38, ground := Ground.phase }], guard := none }) (v := ?vq39_40) rfl (by kernel_rfl) (by kernel_rfl) (by kernel_rfl) (fun _ _ _ h => h) (Or.inl ⟨by rfl, ?hq39_40⟩) (by assumption) ?_
          case hq39_40 => intro w hSw; (try dsimp only at hSw); go_simp; try (with_reducible rfl)
          (try simp only [Act.put, qA, qB, qC])
          refine wpAnyH_done (by kernel_rfl) ?_ _
          have HX2 := Lib.hid (show Below w.heap.size w wo.drew ∧ wo.drew.heap[N]? = some (.cells #[.string bnm, .int .i64 bpa, .slice lo nl lc, .slice (some ⟨ba, offa, none⟩) nb bc] 30) from ⟨HX.out.1.drew, HX.out.2⟩)
          obtain ⟨w5, hw5⟩ : ∃ w5, w5 = wo.drew := ⟨_, rfl⟩
          rw [← hw5] at HX2
          try rw [← hw5]
          clear hw5 HX hHeld
          obtain ⟨y0, y1, y2, y3, yf, yl⟩ := cells4p HX2.out.2
          obtain ⟨q0, q15, q4, q14⟩ := HQC.out w5 HX2.out.1
          go_wp2_with fail
          clear y0 y1 y2 y3 yf yl q0 q15 q4 q14
          go_loopw [5, 8, 9, 10] (fun s u _ _ wr => (∃ z : Int, s = .int .i64 z) ∧ ∃ k : Nat, k ≤ ni ∧ u = .int .i64 k ∧ Below w.heap.size w wr ∧ wr.heap[N]? = some (.cells #[.string bnm, .int .i64 bpa, .slice lo nl lc, .slice (some ⟨ba, offa, none⟩) nb bc] 30)) (fun _ u _ _ _ => ni - (intOf u).toNat)
          case atStart => exact ⟨⟨_, rfl⟩, 0, by omega, rfl, HX2.out.1, HX2.out.2⟩
          case round =>
            clear HX2
            obtain ⟨⟨z3, rfl⟩, k, hk, rfl, hbw, hx⟩ := hrel
            obtain ⟨y0, y1, y2, y3, yf, yl⟩ := cells4p hx
            obtain ⟨q0, q15, q4, q14⟩ := HQC.out wr hbw
            clear q15 q4 q14 y0 y1 y2
            have HX := Lib.hid (And.intro hbw hx)
            obtain ⟨wq, rfl⟩ : ∃ wo : World, wo = wr := ⟨_, rfl⟩
            by_cases hkl : k < ni
            · as_aux_lemma =>
              have t3 : decide ((k : Int) < ni) = true := by simp; omega
              obtain ⟨bi, offi, rfl, hlti, hcelli⟩ := i3.out (by omega)
              obtain ⟨x, hxj⟩ : ∃ x, ins[k]? = some x := ⟨_, List.getElem?_eq_getElem (by rw [HNI.out]; exact hkl)⟩
              have hmem := i4.out x (List.mem_of_getElem? hxj)
              have gx : wq.rangeAt bi (offi + k * 15) (siC x) := fun i v hv => (hbw.cell (p := ⟨bi, offi + k * 15 + i, none⟩) hlti).trans (hcelli k x hxj i v hv)
              obtain ⟨cl, hcl⟩ : ∃ cl, cl = siC x := ⟨_, rfl⟩
              have hln : cl.length = 15 := by rw [hcl]; exact siC_len _
              have hone : ∀ v ∈ cl, v.oneCell' = true := by rw [hcl]; exact siC_one x
              rw [← hcl] at gx
              obtain ⟨sk, spos, ⟨sa, ⟨so1, sc1⟩, spath⟩, ⟨vk, ⟨vo, vc⟩, vuses, ⟨va, ⟨vo2, vc2⟩, vpath⟩, vg, vh⟩, ⟨ui, uj, ul, ⟨ua, ⟨uo, uc⟩, upath⟩⟩⟩ := x
              obtain ⟨u1, u2, u3, u4⟩ := hmem.2.2.2.1.2.1
              dsimp only at u1 u2 u3 u4
              unfold maxLen at u2
              obtain ⟨nu, hnu⟩ : ∃ n, vuses.length = n := ⟨_, rfl⟩
              have e3 : cl[3]? = some (.slice so1 spath.length sc1) := by rw [hcl]; rfl
              have e5 : cl[5]? = some (.slice vo nu vc) := by rw [hcl, ← hnu]; rfl
              have e7 : cl[7]? = some (.slice vo2 vpath.length vc2) := by rw [hcl]; rfl
              have e14 : cl[14]? = some (.slice uo upath.length uc) := by rw [hcl]; rfl
              have hz : ∀ W : World, W.heap[wq.heap.size]? = some (.cells cl.toArray 84) → W.cell? ⟨wq.heap.size, 2 + 1, none⟩ = some (.slice so1 spath.length sc1) ∧ W.cell? ⟨wq.heap.size, 4 + 1, none⟩ = some (.slice vo nu vc) ∧ W.cell? ⟨wq.heap.size, 4 + 2 + 1, none⟩ = some (.slice vo2 vpath.length vc2) ∧ W.cell? ⟨wq.heap.size, 10 + 3 + 1, none⟩ = some (.slice uo upath.length uc) := fun W h => by
                refine ⟨?_, ?_, ?_, ?_⟩
                · simpa using rangeAt_of_box h 3 _ e3
                · simpa using rangeAt_of_box h 5 _ e5
                · simpa using rangeAt_of_box h 7 _ e7
                · simpa using rangeAt_of_box h 14 _ e14
              have HZ := Lib.hid hz
              have GX := Lib.hid gx
              have HLN := Lib.hid (And.intro hln (And.intro hone (show (Tryz.prog.info? 84).map (·.size) = some cl.length by rw [hln]; exact info_inO)))
              have HNU := Lib.hid hnu
              rw [hnu] at u1 u3
              have HUB := Lib.hid (And.intro u1 u2)
              clear u1 u2
              replace u3 := Lib.hid u3
              replace u4 := Lib.hid u4
              clear hz gx hln hone e3 e5 e7 e14 hcl hxj hcelli hmem hnu hx hbw
              go_upto_region 15 with
                (first
                  | (go_loud (refine wpList_load_mid rfl 84 (.tmp 96) rfl bi (offi + k * 15) rfl cl _ GX.out Tryz.underlying84 rfl HLN.out.2.2 ?_))
                  | (go_loud (refine wpList_store_new2 rfl 84 (.tmp 9) (.tmp 97) rfl wq _ _ wq.heap.size rfl rfl cl rfl (by rw [HLN.out.1]; rfl) HLN.out.2.2 HLN.out.2.1 ?_; intro W1 hb1 hbx1 hs1)))
              obtain ⟨M, hM⟩ : ∃ M, M = wq.heap.size := ⟨_, rfl⟩
              rw [← hM] at hbx1 HZ
              try simp only [← hM]
              have H1 := Lib.hid (show Below w.heap.size w W1 ∧ W1.heap[N]? = some (.cells #[.string bnm, .int .i64 bpa, .slice lo nl lc, .slice (some ⟨ba, offa, none⟩) nb bc] 30) ∧ W1.heap[M]? = some (.cells cl.toArray 84) from ⟨HX.out.1.trans (hb1.mono HX.out.1.size), (hb1.block N (blk_lt HX.out.2)).trans HX.out.2, hbx1⟩)
              clear hM hb1 hbx1 hs1 y3 yf yl q0 HX
              obtain ⟨m3, m5, m7, m14⟩ := HZ.out W1 H1.out.2.2
              go_wp2_with fail
              clear m3 m5 m7 m14
              go_loopw [5, 10] (fun s u wr => (∃ z : Int, s = .int .i64 z) ∧ ∃ e : Nat, e ≤ nu ∧ u = .int .i64 e ∧ wr = W1) (fun _ u _ => nu - (intOf u).toNat)
              case atStart => exact ⟨⟨_, rfl⟩, 0, by omega, rfl, rfl⟩
              case round =>
                obtain ⟨⟨z4, rfl⟩, e, he, rfl, rfl⟩ := hrel
                obtain ⟨m3, m5, m7, m14⟩ := HZ.out wr H1.out.2.2
                by_cases hel : e < nu
                · as_aux_lemma =>
                  have t4 : decide ((e : Int) < nu) = true := by simp; omega
                  obtain ⟨bu, offu, rfl, hltu, hcellu⟩ := u3.out (by omega)
                  obtain ⟨y, hyj⟩ : ∃ x, vuses[e]? = some x := ⟨_, List.getElem?_eq_getElem (by rw [HNU.out]; exact hel)⟩
                  obtain ⟨yi, yj, yl, ⟨ya, ⟨yo, yc⟩, ypath⟩⟩ := y
                  have g4 : wr.cell? ⟨bu, offu + e * 5 + 3 + 1, none⟩ = some (.slice yo ypath.length yc) := (H1.out.1.cell (p := ⟨bu, offu + e * 5 + 3 + 1, none⟩) hltu).trans (by simpa using hcellu e _ hyj 4 _ rfl)
                  clear hyj hcellu m3 m7 m14
                  obtain ⟨hz1, hz2⟩ := HUB.out
                  go_wp2
                  go_roundw
                  case rel => exact ⟨⟨_, rfl⟩, e + 1, by omega, by go_num, by trivial⟩
                  case measure => simp [intOf]; omega
                · have t4 : decide ((e : Int) < nu) = false := by simp; omega
                  obtain rfl : nu = e := by omega
                  clear m3 m7 m14
                  obtain ⟨hz1, hz2⟩ := HIB.out
                  go_wp2
                  go_roundw
                  case rel =>
                    simp only [Go.IntWalk.i64_left]
                    repeat apply Exists.intro
                    refine ⟨⟨⟨_, rfl⟩, k + 1, by omega, ?_, H1.out.1, H1.out.2.1⟩, rfl⟩
                    go_num
                  case measure => simp [intOf]; omega
            · have t3 : decide ((k : Int) < ni) = false := by simp; omega
              obtain rfl : ni = k := by omega
              clear hx hbw
              obtain ⟨hz1, hz2⟩ := HBB.out
              go_wp2
              go_roundw
              case rel => exact ⟨⟨_, rfl⟩, i + 1, by omega, by go_num, HX.out.1, HX.out.2⟩
              case measure => simp [intOf]; omega
        · have t2 : decide ((i : Int) < nb) = false := by simp; omega
          obtain rfl : nb = i := by omega
          clear hx hbw
          go_wp2
          go_ret
          exact ⟨⟨_, rfl⟩, HX.out.1⟩

end Go.Proofs.YtghkbihgdabamaaGreatDoor
