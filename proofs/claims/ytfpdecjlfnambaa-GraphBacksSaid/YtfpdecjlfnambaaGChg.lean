/-
  Graph: newChanges. Conditions: the body and the changes lie in the heap, and are not too many.
-/
import Derived.Test.YtfpdecjlfnambaaGChgP
namespace Go.Proofs.Ytfpdecjlfnambaa
open Go Go.RowKit

theorem isPlace_q (n : Int) (L : Nat) (w : World) (k : Nat) : Calls Try.prog 50 #[.int .i64 n, .int .i64 (L : Int)] (w.drewN k) fun e w' => e = .returned (.bool (isPl n L)) ∧ ∃ m, w' = w.drewN m :=
  Calls.quiet_of_same (isPlace_any _ _ _)

theorem isPlace_s (n : Int) (S : Nat) (w : World) : Calls Try.prog 50 #[.int .i64 n, .int .i64 ((S : Int) + 1)] w fun e w' => e = .returned (.bool (isPl n (S + 1))) ∧ w' = w := by
  have := isPlace_any n (S + 1) w
  rwa [show ((S + 1 : Nat) : Int) = (S : Int) + 1 by omega] at this

set_option maxRecDepth 100000 in
set_option maxHeartbeats 4000000 in
theorem newChanges_any (n0 : Nat) (B : Bv) (n : Nat) (oa : Option Addr) (cap : Nat) (C : List Chg) (w : World) (hB : B.At n0 w) (hs : B.Small) (hC : CRow n0 w oa C) (hcs : CSmall C) (hn : n ≤ 1000) (hn0 : n0 ≤ w.heap.size) :
    Calls Try.prog 42 #[B.v, .int .i64 (n : Int), .slice oa C.length cap] w fun e w' => ∃ m l rv, e = .returned (.map (some m)) ∧ w.heap.size ≤ m ∧ Below w.heap.size w w' ∧ ChAt w' w.heap.size m (rlF B.g n C) l rv := by
  obtain ⟨nm, pa, lo, oB, cB, g⟩ := B
  simp only at hs ⊢
  obtain ⟨L, hL⟩ : ∃ L, L = g.length := ⟨_, rfl⟩
  obtain ⟨nC, hnC⟩ : ∃ k, k = C.length := ⟨_, rfl⟩
  have hs1 : L ≤ 1000 := by rw [hL]; exact hs.1
  have hc1 : nC ≤ 100 := by rw [hnC]; exact hcs.1
  rw [← hnC]
  have HA := Lib.hid (And.intro hB (And.intro hs (And.intro hC (And.intro hcs (And.intro hn0 (And.intro hL hnC))))))
  unfold Bv.v Bv.cs
  simp only
  rw [← hL]
  clear hB hs hC hcs hn0 hL hnC
  have hmm := @run_makeMap Try.prog
  go_enter Try.func42, Try.ntmps42
  go_wp2
  clear hmm
  go_loopw [15] (fun i wr => ∃ (k : Nat) (l : KL) (rv : Key3 → Value), k ≤ nC ∧ i = .int .i64 k ∧ Below w.heap.size w wr ∧ Bx wr w.heap.size 25 [nm, pa, lo, .slice oB L cB] ∧ ChAt wr w.heap.size (w.heap.size + 1) (rlF g n (C.take k)) l rv)
    (fun i _ => nC - (intOf i).toNat)
  case atStart =>
    refine ⟨0, [], fun _ => .slice none 0 0, Nat.zero_le _, rfl, ?_, ?_, ⟨⟨#[], 0, ?_, rfl⟩, fun b s => rfl, fun x => ?_, fun x y g h => by cases h⟩⟩
    · exact ((Below.refl _ w).alloc (Nat.le_refl _) _).alloc (by simp) _
    · exact (Bx.new w _ [nm, pa, lo, .slice oB L cB]).alloc _
    · have := World.alloc_heap_new (w.alloc (.cells #[nm, pa, lo, .slice oB L cB] 25)) (.map #[] 0)
      rw [World.size_alloc] at this
      exact this
    · exact World.ownsRow_nil _ _ _ _
  case round =>
    obtain ⟨k, l, rv, hk, rfl, hbel, hbx, hch⟩ := hrel
    by_cases hlt : k < nC
    · obtain ⟨hB, hs, hC, hcs, hn0, hL, hnC⟩ := HA.out
      obtain ⟨bl, off, rfl, hbl, hcell⟩ := hC (by omega)
      obtain ⟨a1, a2, ⟨v3, a3, q3⟩, v4, a4, q4⟩ := hcell k (by omega)
      obtain ⟨c, hc⟩ : ∃ c, c = C[k]?.getD default := ⟨_, rfl⟩
      have hcC : c ∈ C := by
        rw [hc, List.getElem?_eq_getElem (by omega)]
        exact List.getElem_mem _
      rw [← hc] at a1 a2 q3 q4
      have e : ∀ j, wr.cell? ⟨bl, j, none⟩ = w.cell? ⟨bl, j, none⟩ := fun j => hbel.cell (p := ⟨bl, j, none⟩) (by show bl < w.heap.size; omega)
      have e1 := (e _).trans a1
      have e2 := (e _).trans a2
      have e3 := (e _).trans a3
      have e4 := (e _).trans a4
      replace q3 := q3.below hbel hn0
      replace q4 := q4.below hbel hn0
      have eb := hbx.cell 3
      simp at eb
      obtain ⟨cb, cs, cg, ck⟩ := c
      simp only at e1 e2 q3 q4
      have q3' := q3
      have q4' := q4
      obtain ⟨o3, c3, rfl, -⟩ := q3'
      obtain ⟨o4, c4, rfl, -⟩ := q4'
      obtain ⟨m3, hm3⟩ : ∃ m3, m3 = cg.length := ⟨_, rfl⟩
      obtain ⟨m4, hm4⟩ : ∃ m4, m4 = ck.length := ⟨_, rfl⟩
      rw [← hm3] at e3 q3
      rw [← hm4] at e4 q4
      have HM := Lib.hid (And.intro hm3 hm4)
      clear hm3 hm4
      have HB := Lib.hid (And.intro hbel (And.intro hbx (And.intro hch (And.intro hc (And.intro hcC (And.intro q3 q4))))))
      clear hB hs hC hcs hn0 hL hnC hcell hbel hbx hch hc hcC q3 q4 a1 a2 a3 a4 e
      cases hp : isPl cb L with
      | false =>
        go_upto_region 5 with fail
        obtain ⟨W, hW⟩ : ∃ W, W = wr.alloc (.cells #[.int .i64 cb, .int .i64 cs, .slice o3 m3 c3, .slice o4 m4 c4] 66) := ⟨_, rfl⟩
        have hX := Bx.new wr 66 [.int .i64 cb, .int .i64 cs, .slice o3 m3 c3, .slice o4 m4 c4]
        have g1 : (wr.alloc (.cells #[.int .i64 cb, .int .i64 cs, .slice o3 m3 c3, .slice o4 m4 c4] 66)).cell? ⟨wr.heap.size, 0, none⟩ = some (.int .i64 cb) := hX.cell 0
        have g2 : (wr.alloc (.cells #[.int .i64 cb, .int .i64 cs, .slice o3 m3 c3, .slice o4 m4 c4] 66)).cell? ⟨wr.heap.size, 1, none⟩ = some (.int .i64 cs) := hX.cell 1
        have g3 := cellA (.cells #[.int .i64 cb, .int .i64 cs, .slice o3 m3 c3, .slice o4 m4 c4] 66) eb
        rw [← hW] at g1 g2 g3 ⊢
        have HW := Lib.hid hW
        clear hX hW
        go_quiet (first | (go_at_call 50; refine Calls.quiet_of_same (isPlace_any cb L _)))
        go_wp2
        go_roundw
        case rel =>
          obtain ⟨hbel, hbx, hch, hc, hcC, q3, q4⟩ := HB.out
          obtain ⟨hB, hs, hC, hcs, hn0, hL, hnC⟩ := HA.out
          have hq : Below wr.heap.size wr (W.drewN nq) := by
            rw [HW.out]
            exact below_drewN ((Below.refl _ wr).alloc (Nat.le_refl _) _) _
          refine ⟨k + 1, l, rv, by omega, by simp, hbel.trans (hq.mono hbel.size), hbx.below hq hbx.lt, ?_⟩
          rw [rlF_skip g n (by omega) (by rw [← hc]; simp only [okS, ← hL, hp, Bool.false_and])]
          exact hch.below hq
        case measure => simp [intOf]; omega
      | true =>
        obtain ⟨y, hy⟩ : ∃ y : Nat, cb = (y : Int) := ⟨cb.toNat, by simp [isPl] at hp; omega⟩
        subst hy
        have hyL : y < L := by simp [isPl] at hp; omega
        obtain ⟨hB, hs, hC, hcs, hn0, hL, hnC⟩ := HA.out
        obtain ⟨bB, oB2, rfl, hbB, hrow⟩ := hB (by show 0 < g.length; omega)
        obtain ⟨⟨ia, ic, f1⟩, -⟩ := hrow y (by show y < g.length; omega)
        have f2 := (HB.out.1.cell (p := ⟨bB, oB2 + y * 17, none⟩) (by show bB < w.heap.size; omega)).trans f1
        obtain ⟨S, hS⟩ : ∃ S, S = insR g y := ⟨_, rfl⟩
        simp only at f2
        rw [← hS] at f2
        have hS1 : S ≤ 1000 := by rw [hS]; exact (hs.2 y).1
        have HS := Lib.hid hS
        clear hB hs hC hcs hn0 hL hnC hrow f1 hS
        cases hp2 : isPl cs (S + 1) with
        | false =>
          go_upto_region 5 with fail
          obtain ⟨W, hW⟩ : ∃ W, W = wr.alloc (.cells #[.int .i64 ((y : Nat) : Int), .int .i64 cs, .slice o3 m3 c3, .slice o4 m4 c4] 66) := ⟨_, rfl⟩
          have hX := Bx.new wr 66 [.int .i64 ((y : Nat) : Int), .int .i64 cs, .slice o3 m3 c3, .slice o4 m4 c4]
          have g1 : (wr.alloc (.cells #[.int .i64 ((y : Nat) : Int), .int .i64 cs, .slice o3 m3 c3, .slice o4 m4 c4] 66)).cell? ⟨wr.heap.size, 0, none⟩ = some (.int .i64 ((y : Nat) : Int)) := hX.cell 0
          have g2 : (wr.alloc (.cells #[.int .i64 ((y : Nat) : Int), .int .i64 cs, .slice o3 m3 c3, .slice o4 m4 c4] 66)).cell? ⟨wr.heap.size, 1, none⟩ = some (.int .i64 cs) := hX.cell 1
          have g3 := cellA (.cells #[.int .i64 ((y : Nat) : Int), .int .i64 cs, .slice o3 m3 c3, .slice o4 m4 c4] 66) eb
          have g4 := cellA (.cells #[.int .i64 ((y : Nat) : Int), .int .i64 cs, .slice o3 m3 c3, .slice o4 m4 c4] 66) f2
          rw [← hW] at g1 g2 g3 g4 ⊢
          have HW := Lib.hid hW
          clear hX hW
          go_quiet (first | (go_at_call_of 50 (Value.int .i64 ((y : Nat) : Int)); refine Calls.quiet_of_same (isPlace_any _ L _)) | (go_at_call 50; refine Calls.quiet_of_same (isPlace_s cs S _)))
          go_wp2
          go_roundw
          case rel =>
            obtain ⟨hbel, hbx, hch, hc, hcC, q3, q4⟩ := HB.out
            obtain ⟨hB, hs, hC, hcs, hn0, hL, hnC⟩ := HA.out
            have hq : Below wr.heap.size wr (W.drewN nq) := by
              rw [HW.out]
              exact below_drewN ((Below.refl _ wr).alloc (Nat.le_refl _) _) _
            refine ⟨k + 1, l, rv, by omega, by simp, hbel.trans (hq.mono hbel.size), hbx.below hq hbx.lt, ?_⟩
            rw [rlF_skip g n (by omega) (by rw [← hc]; simp only [okS, Int.toNat_natCast, ← HS.out, hp2, Bool.and_false])]
            exact hch.below hq
          case measure => simp [intOf]; omega
        | true =>
          go_upto_region 5 with fail
          obtain ⟨W, hW⟩ : ∃ W, W = wr.alloc (.cells #[.int .i64 ((y : Nat) : Int), .int .i64 cs, .slice o3 m3 c3, .slice o4 m4 c4] 66) := ⟨_, rfl⟩
          have hX := Bx.new wr 66 [.int .i64 ((y : Nat) : Int), .int .i64 cs, .slice o3 m3 c3, .slice o4 m4 c4]
          have g1 : (wr.alloc (.cells #[.int .i64 ((y : Nat) : Int), .int .i64 cs, .slice o3 m3 c3, .slice o4 m4 c4] 66)).cell? ⟨wr.heap.size, 0, none⟩ = some (.int .i64 ((y : Nat) : Int)) := hX.cell 0
          have g2 : (wr.alloc (.cells #[.int .i64 ((y : Nat) : Int), .int .i64 cs, .slice o3 m3 c3, .slice o4 m4 c4] 66)).cell? ⟨wr.heap.size, 1, none⟩ = some (.int .i64 cs) := hX.cell 1
          have g3 := cellA (.cells #[.int .i64 ((y : Nat) : Int), .int .i64 cs, .slice o3 m3 c3, .slice o4 m4 c4] 66) eb
          have g4 := cellA (.cells #[.int .i64 ((y : Nat) : Int), .int .i64 cs, .slice o3 m3 c3, .slice o4 m4 c4] 66) f2
          rw [← hW] at g1 g2 g3 g4 ⊢
          have HW := Lib.hid hW
          clear hX hW
          go_quiet (first | (go_at_call_of 50 (Value.int .i64 ((y : Nat) : Int)); refine Calls.quiet_of_same (isPlace_any _ L _)) | (go_at_call 50; refine Calls.quiet_of_same (isPlace_s cs S _)))
          obtain ⟨W2, hW2⟩ : ∃ W2, W2 = W.drewN nq := ⟨_, rfl⟩
          have k1 : W2.cell? ⟨wr.heap.size, 0, none⟩ = some (.int .i64 ((y : Nat) : Int)) := by rw [hW2]; exact g1
          have k2 : W2.cell? ⟨wr.heap.size, 1, none⟩ = some (.int .i64 cs) := by rw [hW2]; exact g2
          rw [← hW2]
          have HW2 := Lib.hid hW2
          clear hW2 g1 g2 g3 g4
          go_upto_region 7 with fail
          obtain ⟨hbel, hbx, hch, hc, hcC, q3, q4⟩ := HB.out
          obtain ⟨hB, hs, hC, hcs, hn0, hL, hnC⟩ := HA.out
          have hWW : Below wr.heap.size wr W2 := by
            rw [HW2.out, HW.out]
            exact below_drewN ((Below.refl _ wr).alloc (Nat.le_refl _) _) _
          have hn1 : n0 ≤ wr.heap.size := Nat.le_trans hn0 hbel.size
          obtain ⟨W3, hW3⟩ : ∃ W3, W3 = W2.alloc (.cells #[.int .i64 ((y : Nat) : Int), .int .i64 cs] 100) := ⟨_, rfl⟩
          have kb := Bx.new W2 100 [.int .i64 ((y : Nat) : Int), .int .i64 cs]
          have hW23 : Below W2.heap.size W2 W3 := by
            rw [hW3]
            exact (Below.refl _ W2).alloc (Nat.le_refl _) _
          rw [show W2.alloc (.cells [.int .i64 ((y : Nat) : Int), .int .i64 cs].toArray 100) = W3 from hW3.symm] at kb
          have hXw : Bx W2 wr.heap.size 66 [.int .i64 ((y : Nat) : Int), .int .i64 cs, .slice o3 m3 c3, .slice o4 m4 c4] := by
            rw [HW2.out, HW.out]
            exact Bx.new wr _ [.int .i64 ((y : Nat) : Int), .int .i64 cs, .slice o3 m3 c3, .slice o4 m4 c4]
          have hX3 := hXw.below hW23 hXw.lt
          have hch3 : ChAt W3 w.heap.size (w.heap.size + 1) (rlF g n (C.take k)) l rv := (hch.below hWW).below hW23
          have hw13 : Below wr.heap.size wr W3 := hWW.trans (hW23.mono hWW.size)
          rw [← hW3]
          obtain ⟨oA, nA, cA, hvA⟩ : ∃ o n c, rv (((y : Nat) : Int), cs, true) = .slice o n c := own_slice (hch3.row (((y : Nat) : Int), cs, true))
          obtain ⟨oD, nD, cD, hvD⟩ : ∃ o n c, rv (((y : Nat) : Int), cs, false) = .slice o n c := own_slice (hch3.row (((y : Nat) : Int), cs, false))
          have hlook := run_look _ l ((y : Nat) : Int) cs W3 hch3.map
          rw [hch3.look, hvA, hvD, keyV] at hlook
          have l1 := kb.cell 0
          have l2 := kb.cell 1
          simp at l1 l2
          have HD := Lib.hid (And.intro hWW (And.intro hn1 (And.intro hW3 (And.intro kb (And.intro hX3 (And.intro hch3 (And.intro hw13 (And.intro hvA hvD))))))))
          clear hbel hbx hch hc hcC q3 q4 hB hs hC hcs hn0 hL hnC hWW hn1 hW3 kb hX3 hch3 hw13 hvA hvD hXw hW23 k1 k2
          go_upto_region 8 with fail
          obtain ⟨W4, hW4⟩ : ∃ W4, W4 = W3.alloc (.cells #[.slice oA nA cA, .slice oD nD cD] 112) := ⟨_, rfl⟩
          obtain ⟨hWW, hn1, hW3, kb, hX3, hch3, hw13, hvA, hvD⟩ := HD.out
          obtain ⟨hbel, hbx, hch, hc, hcC, q3, q4⟩ := HB.out
          obtain ⟨hB, hs, hC, hcs, hn0, hL, hnC⟩ := HA.out
          have hW34 : Below W3.heap.size W3 W4 := by
            rw [hW4]
            exact (Below.refl _ W3).alloc (Nat.le_refl _) _
          have tb : Bx W4 W3.heap.size 112 [.slice oA nA cA, .slice oD nD cD] := by
            rw [hW4]
            exact Bx.new W3 _ [.slice oA nA cA, .slice oD nD cD]
          have kb4 := kb.below hW34 kb.lt
          have hX4 := hX3.below hW34 hX3.lt
          have hch4 := hch3.below hW34
          have hw14 : Below wr.heap.size wr W4 := hw13.trans (hW34.mono hw13.size)
          have q34 := q3.below hw14 hn1
          have q44 := q4.below hw14 hn1
          have hbase : w.heap.size ≤ W4.heap.size := Nat.le_trans hbel.size hw14.size
          have hlenA : (rlF g n (C.take k) (((y : Nat) : Int), cs, true)).length ≤ 100000 := by
            have h1 := rlF_len g n (C.take k) (((y : Nat) : Int), cs, true) (fun c hc => hcs.2 c (List.mem_of_mem_take hc))
            rw [List.length_take] at h1
            have h2 := hcs.1
            omega
          have hlenD : (rlF g n (C.take k) (((y : Nat) : Int), cs, false)).length ≤ 100000 := by
            have h1 := rlF_len g n (C.take k) (((y : Nat) : Int), cs, false) (fun c hc => hcs.2 c (List.mem_of_mem_take hc))
            rw [List.length_take] at h1
            have h2 := hcs.1
            omega
          have hg1 := (hcs.2 _ hcC).1
          have hg2 := (hcs.2 _ hcC).2
          simp only at hg1 hg2
          have l3 := tb.cell 0
          have l5 := hX4.cell 2
          simp at l3 l5
          have rowA := hch4.row (((y : Nat) : Int), cs, true)
          rw [hvA] at rowA
          have CA := addFlags_any n0 w.heap.size _ _ _ cg n W4 rowA q34 hn0 hbase (by omega) hn
          rw [← hW4]
          have HE := Lib.hid (And.intro hW4 (And.intro hW34 (And.intro tb (And.intro kb4 (And.intro hX4 (And.intro hch4 (And.intro hw14 (And.intro q44 (And.intro hbase (And.intro hlenD hg2))))))))))
          have HCA := Lib.hid CA
          clear hWW hn1 hW3 kb hX3 hch3 hw13 hvA hvD hbel hbx hch hc hcC q3 q4 hB hs hC hcs hn0 hL hnC hW4 hW34 tb kb4 hX4 hch4 hw14 q34 q44 hbase hlenA hlenD hg1 hg2 rowA CA hlook l1 l2
          go_upto_region 9 with (go_at_call 58; refine HCA.out.mono ?_; clear HCA; rintro e w5 ⟨v1, rfl, h5, k5, o5⟩; obtain ⟨oE, nE, cE, hvE⟩ := own_slice h5; subst hvE; have HF := Lib.hid (And.intro h5 (And.intro k5 o5)); have tb5 := HE.out.2.2.1.kep k5 (fun h => own_ne (HE.out.2.2.2.2.2.1.row (((y : Nat) : Int), cs, true)) HE.out.2.2.1 (fun cs fr e => by cases e) (HD.out.2.2.2.2.2.2.2.1 ▸ h)); have l6 := tb5.cell 0; have l7 := tb5.frozen 0; simp at l6; have HT5 := Lib.hid tb5; clear h5 k5 o5 l3 l5 tb5)
          obtain ⟨W6, hW6⟩ : ∃ W6, W6 = w5.setCell ⟨W3.heap.size, 0, none⟩ (.slice oE nE cE) := ⟨_, rfl⟩
          obtain ⟨hW4, hW34, tb, kb4, hX4, hch4, hw14, q44, hbase, hlenD, hg2⟩ := HE.out
          obtain ⟨hWW, hn1, hW3, kb, hX3, hch3, hw13, hvA, hvD⟩ := HD.out
          obtain ⟨h5, k5, o5⟩ := HF.out
          have hn0 := HA.out.2.2.2.2.1
          have tb5 := HT5.out
          rw [← hvA] at k5 o5
          have k6 : Kep (fun k => k = W3.heap.size) w5 W6 := by
            rw [hW6]
            exact Kep.setCell (M := fun k => k = W3.heap.size) (Kep.refl _ _) (.inr rfl) _
          have tb6 : Bx W6 W3.heap.size 112 [.slice oE nE cE, .slice oD nD cD] := by
            rw [hW6]
            exact tb5.set 0 _
          have tne : 112 ≠ 3 := by decide
          have rowD := hch4.mid ((y : Nat) : Int) cs tb tne k5 k6 (((y : Nat) : Int), cs, false) (fun e => by cases e)
          rw [hvD] at rowD
          have own0 : ∀ x g, (rv x).ownBlock = some g → w.heap.size ≤ g := fun x g hg => (own_lt (hch4.row x) hg).2
          have hb46 : Below n0 W4 W6 := (k5.to_below (by omega) (fun q hq h => by have := own0 _ _ h; omega)).trans (k6.to_below (by have := k5.size; omega) (fun q hq h => by have := tb.lt; have := hw13.size; omega))
          have q46 := q44.below hb46 (Nat.le_refl _)
          have hX6 := (hX4.kep k5 (fun h => own_ne (hch4.row _) hX4 (fun cs fr e => by cases e) h)).kep k6 (fun e => bx_ne hX4 tb (by decide) e)
          have kb6 := (kb4.kep k5 (fun h => own_ne (hch4.row _) kb4 (fun cs fr e => by cases e) h)).kep k6 (fun e => bx_ne kb4 tb (by decide) e)
          have hbase6 : w.heap.size ≤ W6.heap.size := by have := k5.size; have := k6.size; omega
          have l8 := tb6.cell 1
          have l9 := hX6.cell 3
          simp at l8 l9
          have CD := addFlags_any n0 w.heap.size _ _ _ ck n W6 rowD q46 hn0 hbase6 (by omega) hn
          rw [← hW6]
          have HG := Lib.hid (And.intro hW6 (And.intro k5 (And.intro o5 (And.intro k6 (And.intro tb6 (And.intro hX6 kb6))))))
          have HCD := Lib.hid CD
          clear hW4 hW34 tb kb4 hX4 hch4 hw14 q44 hbase hlenD hg2 hWW hn1 hW3 kb hX3 hch3 hw13 hvA hvD h5 k5 o5 hn0 tb5 hW6 k6 tb6 rowD own0 hb46 q46 hX6 kb6 hbase6 CD tne l6 l7
          go_upto_region 10 with (go_at_call 58; refine HCD.out.mono ?_; clear HCD; rintro e w7 ⟨v2, rfl, h7, k7, o7⟩; obtain ⟨oF, nF, cF, hvF⟩ := own_slice h7; subst hvF; have HH := Lib.hid (And.intro h7 (And.intro k7 o7)); have tb7 := HG.out.2.2.2.2.1.kep k7 (fun h => own_ne (HE.out.2.2.2.2.2.1.row (((y : Nat) : Int), cs, false)) HE.out.2.2.1 (fun cs fr e => by cases e) (HD.out.2.2.2.2.2.2.2.2 ▸ h)); have l6 := tb7.cell 1; have l7 := tb7.frozen 1; simp at l6; have HT7 := Lib.hid tb7; clear h7 k7 o7 l8 l9 tb7)
          obtain ⟨w8, hW8⟩ : ∃ w8, w8 = w7.setCell ⟨W3.heap.size, 1, none⟩ (.slice oF nF cF) := ⟨_, rfl⟩
          obtain ⟨hW4, hW34, tb, kb4, hX4, hch4, hw14, q44, hbase, hlenD, hg2⟩ := HE.out
          obtain ⟨hWW, hn1, hW3, kb, hX3, hch3, hw13, hvA, hvD⟩ := HD.out
          obtain ⟨h5, -, -⟩ := HF.out
          obtain ⟨hW6, k5, o5, k6, tb6, hX6, kb6⟩ := HG.out
          obtain ⟨h7, k7, o7⟩ := HH.out
          rw [← hvD] at k7 o7
          have k8 : Kep (fun k => k = W3.heap.size) w7 w8 := by
            rw [hW8]
            exact Kep.setCell (M := fun k => k = W3.heap.size) (Kep.refl _ _) (.inr rfl) _
          have tb8 : Bx w8 W3.heap.size 112 [.slice oE nE cE, .slice oF nF cF] := by
            rw [hW8]
            exact HT7.out.set 1 _
          have kb8 := (kb6.kep k7 (fun h => own_ne (hch4.row _) kb4 (fun cs fr e => by cases e) h)).kep k8 (fun e => bx_ne kb4 tb (by decide) e)
          obtain ⟨hm8, hstep⟩ := hch4.step ((y : Nat) : Int) cs tb (by decide) _ _ _ _ h5 k5 o5 k6 h7 k7 o7 k8
          obtain ⟨o, hup, hmo⟩ := run_update _ l ((y : Nat) : Int) cs (.agg #[.slice oE nE cE, .slice oF nF cF]) w8 hm8
          have hnew := hstep o hmo
          rw [keyV] at hup
          have m1 := kb8.cell 0
          have m2 := kb8.cell 1
          have m3' := tb8.cell 0
          have m4' := tb8.cell 1
          simp at m1 m2 m3' m4'
          rw [← hW8]
          have HK := Lib.hid (And.intro hW8 (And.intro k8 hnew))
          clear hW4 hW34 tb kb4 hX4 hch4 hw14 q44 hbase hlenD hg2 hWW hn1 hW3 kb hX3 hch3 hw13 hvA hvD h5 k5 o5 hW6 k6 tb6 hX6 kb6 h7 k7 o7 k8 tb8 kb8 hm8 hstep hmo hnew hW8 l6 l7
          go_wp2
          go_roundw
          case rel =>
            obtain ⟨hbel, hbx, hch, hc, hcC, q3, q4⟩ := HB.out
            obtain ⟨hB, hs, hC, hcs, hn0, hL, hnC⟩ := HA.out
            obtain ⟨hW4, hW34, tb, kb4, hX4, hch4, hw14, q44, hbase, hlenD, hg2⟩ := HE.out
            obtain ⟨hW6, k5, o5, k6, tb6, hX6, kb6⟩ := HG.out
            obtain ⟨h7, k7, o7⟩ := HH.out
            obtain ⟨hW8, k8, hnew⟩ := HK.out
            have hvD := HD.out.2.2.2.2.2.2.2.2
            rw [← hvD] at k7
            have own0 : ∀ x g, (rv x).ownBlock = some g → w.heap.size ≤ g := fun x g hg => (own_lt (hch4.row x) hg).2
            have hT := HD.out.2.2.2.2.2.2.1.size
            have hTw := hbel.size
            have s5 := k5.size
            have s6 := k6.size
            have s7 := k7.size
            have b8 : Below w.heap.size w w8 := ((((hbel.trans (hw14.mono hbel.size)).trans (k5.to_below hbase (fun q hq h => by have := own0 _ _ h; omega))).trans (k6.to_below (by omega) (fun q hq h => by omega))).trans (k7.to_below (by omega) (fun q hq h => by have := own0 _ _ h; omega))).trans (k8.to_below (by omega) (fun q hq h => by omega))
            have x4 := hbx.below hw14 hbx.lt
            have x5 := x4.kep k5 (fun h => own_ne (hch4.row _) x4 (fun cs fr e => by cases e) h)
            have x6 := x5.kep k6 (fun e => bx_ne x4 tb (by decide) e)
            have x7 := x6.kep k7 (fun h => own_ne (hch4.row _) x4 (fun cs fr e => by cases e) h)
            have x8 := x7.kep k8 (fun e => bx_ne x4 tb (by decide) e)
            have ee := rlF_step g n (C := C) (k := k) (by omega) hc.symm (by simp only [okS, Int.toNat_natCast, ← HS.out, ← hL, hp, hp2, Bool.and_self])
            exact ⟨k + 1, _, _, by omega, by simp, below_put b8 (by omega) _, x8.of_heap (World.putObj_heap_other (by omega)), ee ▸ hnew⟩
          case measure => simp [intOf]; omega
    · obtain rfl : k = nC := by omega
      go_wp2
      go_ret
      obtain ⟨-, -, -, -, -, -, hnC⟩ := HA.out
      rw [hnC, List.take_length] at hch
      exact ⟨_, l, rv, rfl, by omega, hbel, hch⟩

end Go.Proofs.Ytfpdecjlfnambaa
