/-
  CodeRename answers true for every input. No conditions.
-/
import Derived.Test.YtobhfmliaecbjaaDoorRenH
namespace Go.Proofs.YtobhfmliaecbjaaDoor
open Go.RowKit Go.ChangeShapes Go.WideShapes Go.ChangeAt

def rnPr (q : In × Value) : In × Value := (rnI q.1, q.2)
/-- the turned instruction's box, behind some writes -/
structure S7 (w6 W : World) (y : In) (lv : Value) : Prop where
  box : W.heap[w6.heap.size]? = some (.cells #[.int .i64 y.op, .int .i64 y.a, .int .i64 y.b, .int .i64 y.c, lv] 25)
  below : Below w6.heap.size w6 W
theorem S7.zero (w6 : World) (x : In) (lv : Value) (nq : Nat) : S7 w6 ((w6.alloc (.cells #[.int .i64 x.op, .int .i64 x.a, .int .i64 x.b, .int .i64 x.c, lv] 25)).drewN nq) x lv := by
  have h := alloc_below w6 (.cells #[.int .i64 x.op, .int .i64 x.a, .int .i64 x.b, .int .i64 x.c, lv] 25)
  exact ⟨heap_alloc_new _ _, ⟨h.os, h.tape, h.output, h.size, h.block⟩⟩
theorem S7.a {w6 W : World} {y : In} {lv : Value} (h : S7 w6 W y lv) (v : Int) : S7 w6 (W.setCell ⟨w6.heap.size, 1, none⟩ (.int .i64 v)) ⟨y.op, v, y.b, y.c, y.l⟩ lv :=
  ⟨heap_setCell_same W w6.heap.size 1 _ 25 (.int .i64 v) h.box, h.below.setCell (p := ⟨w6.heap.size, 1, none⟩) (Nat.le_refl _) _⟩
theorem S7.b {w6 W : World} {y : In} {lv : Value} (h : S7 w6 W y lv) (v : Int) : S7 w6 (W.setCell ⟨w6.heap.size, 2, none⟩ (.int .i64 v)) ⟨y.op, y.a, v, y.c, y.l⟩ lv :=
  ⟨heap_setCell_same W w6.heap.size 2 _ 25 (.int .i64 v) h.box, h.below.setCell (p := ⟨w6.heap.size, 2, none⟩) (Nat.le_refl _) _⟩
theorem S7.c {w6 W : World} {y : In} {lv : Value} (h : S7 w6 W y lv) (v : Int) : S7 w6 (W.setCell ⟨w6.heap.size, 3, none⟩ (.int .i64 v)) ⟨y.op, y.a, y.b, v, y.l⟩ lv :=
  ⟨heap_setCell_same W w6.heap.size 3 _ 25 (.int .i64 v) h.box, h.below.setCell (p := ⟨w6.heap.size, 3, none⟩) (Nat.le_refl _) _⟩
theorem hN_rn {B : Nat} {w : World} {fl : List (In × Value)} (h : ∀ p ∈ fl, NumsV B w p.2 p.1.l) : ∀ p ∈ fl.map rnPr, NumsV B w p.2 p.1.l := fun p hp => by
  obtain ⟨q, hq, rfl⟩ := List.mem_map.1 hp
  exact h q hq
theorem fst_rn (fl : List (In × Value)) : (fl.map rnPr).map Prod.fst = (fl.map Prod.fst).map rnI := by simp [rnPr, Function.comp_def]
theorem cellsF_append' (a b : List (In × Value)) : cellsF (a ++ b) = cellsF a ++ cellsF b := by simp [cellsF]
set_option maxRecDepth 100000 in
set_option maxHeartbeats 8000000 in
theorem codeRename_walk (w : World) (fv cv : Value) (p : Pg) (hP : PgV w fv cv p) (hT : TabAt w) (hW : PowAt w) (h4 : 4 ≤ w.heap.size) :
    Calls Tryd.prog 7 #[.agg #[fv, cv]] w fun e w' => e = .returned (.bool true) ∧ Below w.heap.size w w' := by
  have HP := Lib.hid hP
  obtain ⟨⟨oaf, capf, bf, off, rfl, f1, f2, f3, f4⟩, hCos⟩ := hP
  have HCos := Lib.hid hCos
  obtain ⟨oac, capc, bc, offc, rfl, -⟩ := hCos
  unfold maxLen at f2
  replace f3 := Lib.hid f3
  replace f4 := Lib.hid f4
  obtain ⟨W, hWe⟩ : ∃ W, W = w.alloc (.cells #[.slice oaf p.fs.length capf, .slice oac p.cs.length capc] 35) := ⟨_, rfl⟩
  have hb : Below w.heap.size w W := by rw [hWe]; exact alloc_below _ _
  have hx0 : W.heap[w.heap.size]? = some (.cells #[.slice oaf p.fs.length capf, .slice oac p.cs.length capc] 35) := by rw [hWe, heap_alloc_new]
  have HT := Lib.hid hT
  have HW := Lib.hid hW
  clear hT hW
  go_enter Tryd.func7, Tryd.ntmps7
  go_wp2_with fail
  rw [← hWe]
  clear hWe
  refine (works_any W (HT.out.below hb (by omega)) (HW.out.below hb h4) (Nat.le_trans h4 hb.size)).mono ?_
  rintro e w1 ⟨rfl, hb1⟩
  replace hx0 := keepB hx0 hb1
  have B1 : Below w.heap.size w w1 := hb.trans (hb1.mono hb.size)
  clear hb hb1
  have z0 : w1.cell? ⟨w.heap.size, 0, none⟩ = some (.slice oaf p.fs.length capf) := by simp [World.cell?, hx0]
  have z1 : w1.cell? ⟨w.heap.size, 1, none⟩ = some (.slice oac p.cs.length capc) := by simp [World.cell?, hx0]
  replace hx0 := Lib.hid hx0
  go_wp2_with fail
  refine (over_any w1 _ _ p (HP.out.below B1)).mono ?_
  rintro e w2 ⟨⟨b1, rfl, hs1⟩, hb2⟩
  have B2 : Below w.heap.size w w2 := B1.trans (hb2.mono B1.size)
  replace hx0 := Lib.hid (keepB hx0.out hb2)
  replace hs1 := Lib.hid hs1
  clear z0 z1 hb2 B1
  have z0 : w2.cell? ⟨w.heap.size, 0, none⟩ = some (.slice oaf p.fs.length capf) := by simp [World.cell?, hx0.out]
  have z1 : w2.cell? ⟨w.heap.size, 1, none⟩ = some (.slice oac p.cs.length capc) := by simp [World.cell?, hx0.out]
  cases b1 with
  | true =>
    go_wp2
    go_returns
    exact ⟨rfl, B2⟩
  | false =>
  have S1 := Lib.hid (hs1.out rfl)
  clear hs1
  have hlF := S1.out.fs
  obtain ⟨B, hBe⟩ : ∃ B, B = w2.heap.size := ⟨_, rfl⟩
  have hwB : w.heap.size < B := by rw [hBe]; exact World.block_lt_of_cell? w2 _ z0
  have hq0 : RenQ B (.slice oac p.cs.length capc) p 0 w2 (w2.alloc (.cells #[.slice none 0 0, .slice oac p.cs.length capc] 35)) := by
    subst hBe
    exact ⟨⟨.slice none 0 0, [], heap_alloc_new _ _, World.ownsRow_nil _ _ _ _, rfl, fun i fv f h => by simp at h⟩, alloc_below _ _⟩
  have HQ0 := Lib.hid hq0
  have BB := Lib.hid B2
  have HBE := Lib.hid hBe
  clear hq0
  go_wp2_with fail
  simp only [← hBe]
  clear hBe
  go_loopw [6] (fun u wr => ∃ j : Nat, j ≤ p.fs.length ∧ u = .int .i64 j ∧ RenQ B (.slice oac p.cs.length capc) p j w2 wr) (fun u _ => p.fs.length - (intOf u).toNat)
  case atStart => exact ⟨0, by omega, rfl, HQ0.out⟩
  case round =>
    clear HQ0 z0 z1 B2
    obtain ⟨j, hj, rfl, ⟨⟨vq, fvs, qbox, qown, qlen, qF⟩, hbw⟩⟩ := hrel
    have hbw' : Below w2.heap.size w2 wr := by rw [← HBE.out]; exact hbw
    have hBr : B ≤ wr.heap.size := by rw [HBE.out]; exact hbw.size
    have Bwr : Below w.heap.size w wr := BB.out.trans (hbw'.mono BB.out.size)
    have hxr := keepB hx0.out hbw'
    have z0 : wr.cell? ⟨w.heap.size, 0, none⟩ = some (.slice oaf p.fs.length capf) := by simp [World.cell?, hxr]
    have z1 : wr.cell? ⟨w.heap.size, 1, none⟩ = some (.slice oac p.cs.length capc) := by simp [World.cell?, hxr]
    have hwr : w.heap.size < wr.heap.size := by omega
    have QF := Lib.hid qF
    have QLEN := Lib.hid qlen
    have HBW := Lib.hid hbw
    have HXR := Lib.hid hxr
    clear qF qlen hbw hbw' hxr
    by_cases hjl : j < p.fs.length
    · have t5 : decide ((j : Int) < p.fs.length) = true := by simp; omega
      have hji : (j : Int) < p.fs.length := by omega
      obtain ⟨f, hf⟩ : ∃ f, p.fs[j]? = some f := ⟨_, List.getElem?_eq_getElem hjl⟩
      obtain ⟨rfl, hbf⟩ := f3.out (by omega)
      obtain ⟨fvj, k0, oaj, capj, bj, offj, rfl, m1, m2, m3, m4⟩ := f4.out j f hf
      have hfl := S1.out.f f (List.mem_of_getElem? hf)
      have HFJ := Lib.hid hf
      obtain ⟨fl, e1, e2, e3⟩ := FunV.pairs (B := B) m4 (by omega)
      have hfll : fl.length = f.length := by rw [← e1, List.length_map]
      have K0 := Lib.hid k0
      have HM3 := Lib.hid m3
      have E1 := Lib.hid e1
      have E2 := Lib.hid e2
      have E3 := Lib.hid e3
      have HFLL := Lib.hid hfll
      have QBOX := Lib.hid qbox
      have QOWN := Lib.hid qown
      have HWR := Lib.hid Bwr
      clear hf e1 e2 e3 hfll m4 m3 qbox qown k0 z1 Bwr
      obtain ⟨wo, hwo⟩ : ∃ wo, wo = wr := ⟨_, rfl⟩
      subst hwo
      go_wp2_with fail
      go_loopw [7, 8] (fun u i wy => ∃ k : Nat, k ≤ f.length ∧ i = .int .i64 k ∧ wy.ownsRow wo.heap.size 25 5 u k (cellsF ((fl.take k).map rnPr)) ∧ Below wo.heap.size wo wy) (fun _ i _ => f.length - (intOf i).toNat)
      case atStart => exact ⟨0, by omega, rfl, World.ownsRow_nil _ _ _ _, Below.refl _ _⟩
      case round =>
        clear z0
        obtain ⟨k, hk, rfl, hown, hbk⟩ := hrel
        have Bk : Below w.heap.size w wr := HWR.out.trans (hbk.mono HWR.out.size)
        have hxk := keepB HXR.out hbk
        have z0 : wr.cell? ⟨w.heap.size, 0, none⟩ = some (.slice (some ⟨bf, off, none⟩) p.fs.length capf) := by simp [World.cell?, hxk]
        have k0 := (Bk.cell (p := ⟨bf, off + j, none⟩) hbf).trans K0.out
        obtain ⟨ou, gu, capu, rfl, -⟩ := row_shape hown
        have HOWN := Lib.hid hown
        have HBK := Lib.hid hbk
        clear hxk hown
        by_cases hkl : k < f.length
        · have t6 : decide ((k : Int) < f.length) = true := by simp; omega
          have hki : (k : Int) < f.length := by omega
          obtain ⟨rfl, hbj⟩ := HM3.out (by omega)
          obtain ⟨pr, hpr⟩ : ∃ q, fl[k]? = some q := ⟨_, List.getElem?_eq_getElem (by have := HFLL.out; omega)⟩
          obtain ⟨x, lvx⟩ := pr
          obtain ⟨oal, capl, rfl⟩ : ∃ oal capl, lvx = .slice oal x.l.length capl := by obtain ⟨oal, capl, _, _, h, _⟩ := E3.out _ (List.mem_of_getElem? hpr); exact ⟨oal, capl, h⟩
          have HPR := Lib.hid hpr
          have r0 := (Bk.cell (p := ⟨bj, offj + k * 5 + 0, none⟩) hbj).trans (E2.out k _ hpr 0 _ rfl)
          have r1 := (Bk.cell (p := ⟨bj, offj + k * 5 + 1, none⟩) hbj).trans (E2.out k _ hpr 1 _ rfl)
          have r2 := (Bk.cell (p := ⟨bj, offj + k * 5 + 2, none⟩) hbj).trans (E2.out k _ hpr 2 _ rfl)
          have r3 := (Bk.cell (p := ⟨bj, offj + k * 5 + 3, none⟩) hbj).trans (E2.out k _ hpr 3 _ rfl)
          have r4 := (Bk.cell (p := ⟨bj, offj + k * 5 + 4, none⟩) hbj).trans (E2.out k _ hpr 4 _ rfl)
          simp only [Nat.add_zero] at r0
          have hal : Below wo.heap.size wo (wr.alloc (.cells #[.int .i64 x.op, .int .i64 x.a, .int .i64 x.b, .int .i64 x.c, .slice oal x.l.length capl] 25)) := hbk.alloc hbk.size _
          have hxb := heap_alloc_new wr (.cells #[.int .i64 x.op, .int .i64 x.a, .int .i64 x.b, .int .i64 x.c, .slice oal x.l.length capl] 25)
          have Bal : Below w.heap.size w (wr.alloc (.cells #[.int .i64 x.op, .int .i64 x.a, .int .i64 x.b, .int .i64 x.c, .slice oal x.l.length capl] 25)) := HWR.out.trans (hal.mono HWR.out.size)
          have hcR := Lib.hid (reads_any x (.slice oal x.l.length capl) (wr.alloc (.cells #[.int .i64 x.op, .int .i64 x.a, .int .i64 x.b, .int .i64 x.c, .slice oal x.l.length capl] 25)) (HT.out.below Bal (by omega)))
          have h6 := six_is x
          obtain ⟨L, hL⟩ : ∃ L, readsL x = L := ⟨_, rfl⟩
          obtain ⟨O, hO⟩ : ∃ O, writesO x = O := ⟨_, rfl⟩
          obtain ⟨Y, hY⟩ : ∃ Y, rnI x = Y := ⟨_, rfl⟩
          rw [hL, hO, hY] at h6
          rw [hL] at hcR
          have HL := Lib.hid hL
          have HO := Lib.hid hO
          have HY := Lib.hid hY
          replace h6 := Lib.hid h6
          have HAL := Lib.hid hal
          have HXB := Lib.hid hxb
          clear hL hO hY hpr hal hxb Bal
          go_wp2_with fail
          refine hcR.out.mono ?_
          clear hcR
          rintro e w5 ⟨v5, rfl, hv5, hb5⟩
          have hx5 := keepB HXB.out hb5
          have C5 : Below wr.heap.size wr w5 := (alloc_below _ _).trans (hb5.mono (alloc_below _ _).size)
          have B5 : Below wo.heap.size wo w5 := HBK.out.trans (C5.mono HBK.out.size)
          replace C5 := Lib.hid C5
          obtain ⟨y0, y1, y2, y3, y4⟩ := box_cells hx5
          have hcW := Lib.hid (writes_any x (.slice oal x.l.length capl) w5 (HT.out.below (HWR.out.trans (B5.mono HWR.out.size)) (by omega)))
          rw [HO.out] at hcW
          have hx5' := Lib.hid hx5
          have B5' := Lib.hid B5
          clear r0 r1 r2 r3 r4 z0 k0 hx5 B5 hb5 Bk
          go_wp2_with fail
          refine hcW.out.mono ?_
          clear hcW y0 y1 y2 y3 y4
          rintro e w6 ⟨rfl, hb6⟩
          have hx6 := keepB hx5'.out hb6
          have C6 := Lib.hid (C5.out.trans (hb6.mono C5.out.size))
          have B6 : Below wo.heap.size wo w6 := B5'.out.trans (hb6.mono B5'.out.size)
          obtain ⟨y0, y1, y2, y3, y4⟩ := box_cells hx6
          have hbx6 : wr.heap.size < w6.heap.size := (Array.getElem?_eq_some_iff.1 hx6).1
          have hv6 := hv5.below hb6
          obtain ⟨oa5, cap5, b5, off5, rfl, q1, q2, q3, q4⟩ := hv6
          have B6' := Lib.hid B6
          replace q3 := Lib.hid q3
          replace q4 := Lib.hid q4
          clear hv5 hx6 B6 hb6
          cases h6.out with
          | a =>
            rw [writesV_none]
            go_wp2_with fail
            go_quiet (fail)
            go_upto_region 27 with (go_at_call 25; refine (turned_any _ _).mono ?_; rintro e w7 ⟨rfl, rfl⟩)
            have h7 : S7 w6 ((w6.alloc (.cells #[.int .i64 x.op, .int .i64 x.a, .int .i64 x.b, .int .i64 x.c, .slice oal x.l.length capl] 25)).drewN nq) x (.slice oal x.l.length capl) := (S7.zero w6 x (.slice oal x.l.length capl) nq)
            generalize ((w6.alloc (.cells #[.int .i64 x.op, .int .i64 x.a, .int .i64 x.b, .int .i64 x.c, .slice oal x.l.length capl] 25)).drewN nq) = W7 at h7 ⊢
            have hbx7 := h7.box
            have C7 := Lib.hid (C6.out.trans (h7.below.mono C6.out.size))
            obtain ⟨t0, t1, t2, t3, t4⟩ := box_cells hbx7
            have hown2 := row_below (alloc_below W7 (.cells #[.int .i64 x.op, .int .i64 x.a, .int .i64 x.b, .int .i64 x.c, .slice oal x.l.length capl] 25)) (row_below C7.out HOWN.out)
            have D7 := HBK.out.trans (C7.out.mono HBK.out.size)
            have hsz2 : wo.heap.size ≤ (W7.alloc (.cells #[.int .i64 x.op, .int .i64 x.a, .int .i64 x.b, .int .i64 x.c, .slice oal x.l.length capl] 25)).heap.size := Nat.le_trans D7.size (alloc_below W7 _).size
            have hsz3 : wo.heap.size ≤ W7.heap.size := D7.size
            have HD7 := Lib.hid D7
            obtain ⟨i25, hi25, hz25, hs25, hb25⟩ := info_parts info25
            clear h7 hbx7 y0 y1 y2 y3 y4 D7
            go_wp2_with (at_builtin; refine wpList_append_own _ rfl (.tmp 134) (.tmp 136) 39 rfl wo.heap.size 25 i25 _ 5 56 Tryd.underlying39 hi25 hz25 hs25 hb25 rfl (by decide) (.slice ou k capu) k _ rfl hown2 ⟨W7.heap.size, 0, none⟩ 1 1 [.int .i64 x.op, .int .i64 x.a, .int .i64 x.b, .int .i64 x.c, .slice oal x.l.length capl] rfl rfl ?a11 ?a12 ?a13 ?a14 ?a15 ?_)
            try case a11 => exact new_cells W7 [.int .i64 x.op, .int .i64 x.a, .int .i64 x.b, .int .i64 x.c, .slice oal x.l.length capl] 25 _ rfl
            try case a12 => first | rfl | (intro u hu; simp at hu; rcases hu with rfl | rfl | rfl | rfl | rfl <;> rfl) | simp [Value.oneCell']
            try case a13 => unfold maxLen; omega
            try case a14 => omega
            try case a15 => first | exact hsz2 | omega
            intro v' w' hown' hgrow _
            have hown3 : w'.ownsRow wo.heap.size 25 5 v' (k + 1) (cellsF ((fl.take (k + 1)).map rnPr)) := by
              rw [take_snoc fl k _ HPR.out, List.map_append, cellsF_append', show List.map rnPr [(x, (.slice oal x.l.length capl))] = [(x, (.slice oal x.l.length capl))] from by simp only [List.map_cons, List.map_nil, rnPr, HY.out], List.map_take]
              exact hown'
            have hbk' : Below wo.heap.size wo w' := (HD7.out.alloc HD7.out.size _).grown hgrow hsz2 fun j hj => (hown2.lt j hj).1
            obtain ⟨og', g', cap', rfl, hog'⟩ := row_shape hown3
            obtain rfl := hog' (by omega)
            have H3 := Lib.hid (And.intro hown3 hbk')
            clear hown' hgrow hown2 hown3 hbk hbk' hog' t0 t1 t2 t3 t4 hi25 hz25 hs25 hb25
            go_wp2
            go_roundw
            case rel => exact ⟨k + 1, by omega, by go_num, H3.out.1, H3.out.2⟩
            case measure => simp [intOf]; omega
          | b =>
            rw [writesV_none]
            obtain ⟨rfl, hb5⟩ := q3.out (by simp)
            have l0 := q4.out 0 _ rfl
            simp only [Nat.add_zero] at l0
            go_wp2_with fail
            go_quiet (fail)
            go_upto_region 27 with (go_at_call 25; refine (turned_any _ _).mono ?_; rintro e w7 ⟨rfl, rfl⟩)
            have h7 : S7 w6 (((w6.alloc (.cells #[.int .i64 x.op, .int .i64 x.a, .int .i64 x.b, .int .i64 x.c, .slice oal x.l.length capl] 25)).drewN nq).setCell ⟨w6.heap.size, 1, none⟩ (.int .i64 (turn x.a))) ⟨x.op, turn x.a, x.b, x.c, x.l⟩ (.slice oal x.l.length capl) := ((S7.zero w6 x (.slice oal x.l.length capl) nq).a (turn x.a))
            generalize (((w6.alloc (.cells #[.int .i64 x.op, .int .i64 x.a, .int .i64 x.b, .int .i64 x.c, .slice oal x.l.length capl] 25)).drewN nq).setCell ⟨w6.heap.size, 1, none⟩ (.int .i64 (turn x.a))) = W7 at h7 ⊢
            have hbx7 := h7.box
            have C7 := Lib.hid (C6.out.trans (h7.below.mono C6.out.size))
            obtain ⟨t0, t1, t2, t3, t4⟩ := box_cells hbx7
            have hown2 := row_below (alloc_below W7 (.cells #[.int .i64 x.op, .int .i64 (turn x.a), .int .i64 x.b, .int .i64 x.c, .slice oal x.l.length capl] 25)) (row_below C7.out HOWN.out)
            have D7 := HBK.out.trans (C7.out.mono HBK.out.size)
            have hsz2 : wo.heap.size ≤ (W7.alloc (.cells #[.int .i64 x.op, .int .i64 (turn x.a), .int .i64 x.b, .int .i64 x.c, .slice oal x.l.length capl] 25)).heap.size := Nat.le_trans D7.size (alloc_below W7 _).size
            have hsz3 : wo.heap.size ≤ W7.heap.size := D7.size
            have HD7 := Lib.hid D7
            obtain ⟨i25, hi25, hz25, hs25, hb25⟩ := info_parts info25
            clear h7 hbx7 y0 y1 y2 y3 y4 D7
            go_wp2_with (at_builtin; refine wpList_append_own _ rfl (.tmp 134) (.tmp 136) 39 rfl wo.heap.size 25 i25 _ 5 56 Tryd.underlying39 hi25 hz25 hs25 hb25 rfl (by decide) (.slice ou k capu) k _ rfl hown2 ⟨W7.heap.size, 0, none⟩ 1 1 [.int .i64 x.op, .int .i64 (turn x.a), .int .i64 x.b, .int .i64 x.c, .slice oal x.l.length capl] rfl rfl ?a21 ?a22 ?a23 ?a24 ?a25 ?_)
            try case a21 => exact new_cells W7 [.int .i64 x.op, .int .i64 (turn x.a), .int .i64 x.b, .int .i64 x.c, .slice oal x.l.length capl] 25 _ rfl
            try case a22 => first | rfl | (intro u hu; simp at hu; rcases hu with rfl | rfl | rfl | rfl | rfl <;> rfl) | simp [Value.oneCell']
            try case a23 => unfold maxLen; omega
            try case a24 => omega
            try case a25 => first | exact hsz2 | omega
            intro v' w' hown' hgrow _
            have hown3 : w'.ownsRow wo.heap.size 25 5 v' (k + 1) (cellsF ((fl.take (k + 1)).map rnPr)) := by
              rw [take_snoc fl k _ HPR.out, List.map_append, cellsF_append', show List.map rnPr [(x, (.slice oal x.l.length capl))] = [(⟨x.op, turn x.a, x.b, x.c, x.l⟩, (.slice oal x.l.length capl))] from by simp only [List.map_cons, List.map_nil, rnPr, HY.out], List.map_take]
              exact hown'
            have hbk' : Below wo.heap.size wo w' := (HD7.out.alloc HD7.out.size _).grown hgrow hsz2 fun j hj => (hown2.lt j hj).1
            obtain ⟨og', g', cap', rfl, hog'⟩ := row_shape hown3
            obtain rfl := hog' (by omega)
            have H3 := Lib.hid (And.intro hown3 hbk')
            clear hown' hgrow hown2 hown3 hbk hbk' hog' t0 t1 t2 t3 t4 hi25 hz25 hs25 hb25
            go_wp2
            go_roundw
            case rel => exact ⟨k + 1, by omega, by go_num, H3.out.1, H3.out.2⟩
            case measure => simp [intOf]; omega
          | c =>
            rw [writesV_none]
            obtain ⟨rfl, hb5⟩ := q3.out (by simp)
            have l0 := q4.out 0 _ rfl
            simp only [Nat.add_zero] at l0
            have l1 := q4.out 1 _ rfl
            go_wp2_with fail
            go_quiet (fail)
            go_upto_region 27 with (go_at_call 25; refine (turned_any _ _).mono ?_; rintro e w7 ⟨rfl, rfl⟩)
            have h7 : S7 w6 ((((w6.alloc (.cells #[.int .i64 x.op, .int .i64 x.a, .int .i64 x.b, .int .i64 x.c, .slice oal x.l.length capl] 25)).drewN nq).setCell ⟨w6.heap.size, 1, none⟩ (.int .i64 (turn x.a))).setCell ⟨w6.heap.size, 2, none⟩ (.int .i64 (turn x.b))) ⟨x.op, turn x.a, turn x.b, x.c, x.l⟩ (.slice oal x.l.length capl) := (((S7.zero w6 x (.slice oal x.l.length capl) nq).a (turn x.a)).b (turn x.b))
            generalize ((((w6.alloc (.cells #[.int .i64 x.op, .int .i64 x.a, .int .i64 x.b, .int .i64 x.c, .slice oal x.l.length capl] 25)).drewN nq).setCell ⟨w6.heap.size, 1, none⟩ (.int .i64 (turn x.a))).setCell ⟨w6.heap.size, 2, none⟩ (.int .i64 (turn x.b))) = W7 at h7 ⊢
            have hbx7 := h7.box
            have C7 := Lib.hid (C6.out.trans (h7.below.mono C6.out.size))
            obtain ⟨t0, t1, t2, t3, t4⟩ := box_cells hbx7
            have hown2 := row_below (alloc_below W7 (.cells #[.int .i64 x.op, .int .i64 (turn x.a), .int .i64 (turn x.b), .int .i64 x.c, .slice oal x.l.length capl] 25)) (row_below C7.out HOWN.out)
            have D7 := HBK.out.trans (C7.out.mono HBK.out.size)
            have hsz2 : wo.heap.size ≤ (W7.alloc (.cells #[.int .i64 x.op, .int .i64 (turn x.a), .int .i64 (turn x.b), .int .i64 x.c, .slice oal x.l.length capl] 25)).heap.size := Nat.le_trans D7.size (alloc_below W7 _).size
            have hsz3 : wo.heap.size ≤ W7.heap.size := D7.size
            have HD7 := Lib.hid D7
            obtain ⟨i25, hi25, hz25, hs25, hb25⟩ := info_parts info25
            clear h7 hbx7 y0 y1 y2 y3 y4 D7
            go_wp2_with (at_builtin; refine wpList_append_own _ rfl (.tmp 134) (.tmp 136) 39 rfl wo.heap.size 25 i25 _ 5 56 Tryd.underlying39 hi25 hz25 hs25 hb25 rfl (by decide) (.slice ou k capu) k _ rfl hown2 ⟨W7.heap.size, 0, none⟩ 1 1 [.int .i64 x.op, .int .i64 (turn x.a), .int .i64 (turn x.b), .int .i64 x.c, .slice oal x.l.length capl] rfl rfl ?a31 ?a32 ?a33 ?a34 ?a35 ?_)
            try case a31 => exact new_cells W7 [.int .i64 x.op, .int .i64 (turn x.a), .int .i64 (turn x.b), .int .i64 x.c, .slice oal x.l.length capl] 25 _ rfl
            try case a32 => first | rfl | (intro u hu; simp at hu; rcases hu with rfl | rfl | rfl | rfl | rfl <;> rfl) | simp [Value.oneCell']
            try case a33 => unfold maxLen; omega
            try case a34 => omega
            try case a35 => first | exact hsz2 | omega
            intro v' w' hown' hgrow _
            have hown3 : w'.ownsRow wo.heap.size 25 5 v' (k + 1) (cellsF ((fl.take (k + 1)).map rnPr)) := by
              rw [take_snoc fl k _ HPR.out, List.map_append, cellsF_append', show List.map rnPr [(x, (.slice oal x.l.length capl))] = [(⟨x.op, turn x.a, turn x.b, x.c, x.l⟩, (.slice oal x.l.length capl))] from by simp only [List.map_cons, List.map_nil, rnPr, HY.out], List.map_take]
              exact hown'
            have hbk' : Below wo.heap.size wo w' := (HD7.out.alloc HD7.out.size _).grown hgrow hsz2 fun j hj => (hown2.lt j hj).1
            obtain ⟨og', g', cap', rfl, hog'⟩ := row_shape hown3
            obtain rfl := hog' (by omega)
            have H3 := Lib.hid (And.intro hown3 hbk')
            clear hown' hgrow hown2 hown3 hbk hbk' hog' t0 t1 t2 t3 t4 hi25 hz25 hs25 hb25
            go_wp2
            go_roundw
            case rel => exact ⟨k + 1, by omega, by go_num, H3.out.1, H3.out.2⟩
            case measure => simp [intOf]; omega
          | d =>
            rw [writesV_some]
            go_wp2_with fail
            go_quiet (fail)
            go_upto_region 27 with (go_at_call 25; refine (turned_any _ _).mono ?_; rintro e w7 ⟨rfl, rfl⟩)
            have h7 : S7 w6 (((w6.alloc (.cells #[.int .i64 x.op, .int .i64 x.a, .int .i64 x.b, .int .i64 x.c, .slice oal x.l.length capl] 25)).drewN nq).setCell ⟨w6.heap.size, 1, none⟩ (.int .i64 (turn x.a))) ⟨x.op, turn x.a, x.b, x.c, x.l⟩ (.slice oal x.l.length capl) := ((S7.zero w6 x (.slice oal x.l.length capl) nq).a (turn x.a))
            generalize (((w6.alloc (.cells #[.int .i64 x.op, .int .i64 x.a, .int .i64 x.b, .int .i64 x.c, .slice oal x.l.length capl] 25)).drewN nq).setCell ⟨w6.heap.size, 1, none⟩ (.int .i64 (turn x.a))) = W7 at h7 ⊢
            have hbx7 := h7.box
            have C7 := Lib.hid (C6.out.trans (h7.below.mono C6.out.size))
            obtain ⟨t0, t1, t2, t3, t4⟩ := box_cells hbx7
            have hown2 := row_below (alloc_below W7 (.cells #[.int .i64 x.op, .int .i64 (turn x.a), .int .i64 x.b, .int .i64 x.c, .slice oal x.l.length capl] 25)) (row_below C7.out HOWN.out)
            have D7 := HBK.out.trans (C7.out.mono HBK.out.size)
            have hsz2 : wo.heap.size ≤ (W7.alloc (.cells #[.int .i64 x.op, .int .i64 (turn x.a), .int .i64 x.b, .int .i64 x.c, .slice oal x.l.length capl] 25)).heap.size := Nat.le_trans D7.size (alloc_below W7 _).size
            have hsz3 : wo.heap.size ≤ W7.heap.size := D7.size
            have HD7 := Lib.hid D7
            obtain ⟨i25, hi25, hz25, hs25, hb25⟩ := info_parts info25
            clear h7 hbx7 y0 y1 y2 y3 y4 D7
            go_wp2_with (at_builtin; refine wpList_append_own _ rfl (.tmp 134) (.tmp 136) 39 rfl wo.heap.size 25 i25 _ 5 56 Tryd.underlying39 hi25 hz25 hs25 hb25 rfl (by decide) (.slice ou k capu) k _ rfl hown2 ⟨W7.heap.size, 0, none⟩ 1 1 [.int .i64 x.op, .int .i64 (turn x.a), .int .i64 x.b, .int .i64 x.c, .slice oal x.l.length capl] rfl rfl ?a41 ?a42 ?a43 ?a44 ?a45 ?_)
            try case a41 => exact new_cells W7 [.int .i64 x.op, .int .i64 (turn x.a), .int .i64 x.b, .int .i64 x.c, .slice oal x.l.length capl] 25 _ rfl
            try case a42 => first | rfl | (intro u hu; simp at hu; rcases hu with rfl | rfl | rfl | rfl | rfl <;> rfl) | simp [Value.oneCell']
            try case a43 => unfold maxLen; omega
            try case a44 => omega
            try case a45 => first | exact hsz2 | omega
            intro v' w' hown' hgrow _
            have hown3 : w'.ownsRow wo.heap.size 25 5 v' (k + 1) (cellsF ((fl.take (k + 1)).map rnPr)) := by
              rw [take_snoc fl k _ HPR.out, List.map_append, cellsF_append', show List.map rnPr [(x, (.slice oal x.l.length capl))] = [(⟨x.op, turn x.a, x.b, x.c, x.l⟩, (.slice oal x.l.length capl))] from by simp only [List.map_cons, List.map_nil, rnPr, HY.out], List.map_take]
              exact hown'
            have hbk' : Below wo.heap.size wo w' := (HD7.out.alloc HD7.out.size _).grown hgrow hsz2 fun j hj => (hown2.lt j hj).1
            obtain ⟨og', g', cap', rfl, hog'⟩ := row_shape hown3
            obtain rfl := hog' (by omega)
            have H3 := Lib.hid (And.intro hown3 hbk')
            clear hown' hgrow hown2 hown3 hbk hbk' hog' t0 t1 t2 t3 t4 hi25 hz25 hs25 hb25
            go_wp2
            go_roundw
            case rel => exact ⟨k + 1, by omega, by go_num, H3.out.1, H3.out.2⟩
            case measure => simp [intOf]; omega
          | e =>
            rcases Bool.eq_false_or_eq_true (x.b == x.a) with hba | hba
            · skip
              rw [writesV_some]
              obtain ⟨rfl, hb5⟩ := q3.out (by simp)
              have l0 := q4.out 0 _ rfl
              simp only [Nat.add_zero] at l0
              go_wp2_with fail
              go_quiet (fail)
              go_upto_region 27 with (go_at_call 25; refine (turned_any _ _).mono ?_; rintro e w7 ⟨rfl, rfl⟩)
              have h7 : S7 w6 ((((w6.alloc (.cells #[.int .i64 x.op, .int .i64 x.a, .int .i64 x.b, .int .i64 x.c, .slice oal x.l.length capl] 25)).drewN nq).setCell ⟨w6.heap.size, 1, none⟩ (.int .i64 (turn x.a))).setCell ⟨w6.heap.size, 2, none⟩ (.int .i64 (turn x.b))) ⟨x.op, turn x.a, turn x.b, x.c, x.l⟩ (.slice oal x.l.length capl) := (((S7.zero w6 x (.slice oal x.l.length capl) nq).a (turn x.a)).b (turn x.b))
              generalize ((((w6.alloc (.cells #[.int .i64 x.op, .int .i64 x.a, .int .i64 x.b, .int .i64 x.c, .slice oal x.l.length capl] 25)).drewN nq).setCell ⟨w6.heap.size, 1, none⟩ (.int .i64 (turn x.a))).setCell ⟨w6.heap.size, 2, none⟩ (.int .i64 (turn x.b))) = W7 at h7 ⊢
              have hbx7 := h7.box
              have C7 := Lib.hid (C6.out.trans (h7.below.mono C6.out.size))
              obtain ⟨t0, t1, t2, t3, t4⟩ := box_cells hbx7
              have hown2 := row_below (alloc_below W7 (.cells #[.int .i64 x.op, .int .i64 (turn x.a), .int .i64 (turn x.b), .int .i64 x.c, .slice oal x.l.length capl] 25)) (row_below C7.out HOWN.out)
              have D7 := HBK.out.trans (C7.out.mono HBK.out.size)
              have hsz2 : wo.heap.size ≤ (W7.alloc (.cells #[.int .i64 x.op, .int .i64 (turn x.a), .int .i64 (turn x.b), .int .i64 x.c, .slice oal x.l.length capl] 25)).heap.size := Nat.le_trans D7.size (alloc_below W7 _).size
              have hsz3 : wo.heap.size ≤ W7.heap.size := D7.size
              have HD7 := Lib.hid D7
              obtain ⟨i25, hi25, hz25, hs25, hb25⟩ := info_parts info25
              clear h7 hbx7 y0 y1 y2 y3 y4 D7
              go_wp2_with (at_builtin; refine wpList_append_own _ rfl (.tmp 134) (.tmp 136) 39 rfl wo.heap.size 25 i25 _ 5 56 Tryd.underlying39 hi25 hz25 hs25 hb25 rfl (by decide) (.slice ou k capu) k _ rfl hown2 ⟨W7.heap.size, 0, none⟩ 1 1 [.int .i64 x.op, .int .i64 (turn x.a), .int .i64 (turn x.b), .int .i64 x.c, .slice oal x.l.length capl] rfl rfl ?a51 ?a52 ?a53 ?a54 ?a55 ?_)
              try case a51 => exact new_cells W7 [.int .i64 x.op, .int .i64 (turn x.a), .int .i64 (turn x.b), .int .i64 x.c, .slice oal x.l.length capl] 25 _ rfl
              try case a52 => first | rfl | (intro u hu; simp at hu; rcases hu with rfl | rfl | rfl | rfl | rfl <;> rfl) | simp [Value.oneCell']
              try case a53 => unfold maxLen; omega
              try case a54 => omega
              try case a55 => first | exact hsz2 | omega
              intro v' w' hown' hgrow _
              have hown3 : w'.ownsRow wo.heap.size 25 5 v' (k + 1) (cellsF ((fl.take (k + 1)).map rnPr)) := by
                rw [take_snoc fl k _ HPR.out, List.map_append, cellsF_append', show List.map rnPr [(x, (.slice oal x.l.length capl))] = [(⟨x.op, turn x.a, turn x.b, x.c, x.l⟩, (.slice oal x.l.length capl))] from by simp only [List.map_cons, List.map_nil, rnPr, HY.out], List.map_take]
                exact hown'
              have hbk' : Below wo.heap.size wo w' := (HD7.out.alloc HD7.out.size _).grown hgrow hsz2 fun j hj => (hown2.lt j hj).1
              obtain ⟨og', g', cap', rfl, hog'⟩ := row_shape hown3
              obtain rfl := hog' (by omega)
              have H3 := Lib.hid (And.intro hown3 hbk')
              clear hown' hgrow hown2 hown3 hbk hbk' hog' t0 t1 t2 t3 t4 hi25 hz25 hs25 hb25
              go_wp2
              go_roundw
              case rel => exact ⟨k + 1, by omega, by go_num, H3.out.1, H3.out.2⟩
              case measure => simp [intOf]; omega
            · skip
              rw [writesV_some]
              obtain ⟨rfl, hb5⟩ := q3.out (by simp)
              have l0 := q4.out 0 _ rfl
              simp only [Nat.add_zero] at l0
              go_wp2_with fail
              go_quiet (fail)
              go_upto_region 27 with (go_at_call 25; refine (turned_any _ _).mono ?_; rintro e w7 ⟨rfl, rfl⟩)
              have h7 : S7 w6 ((((w6.alloc (.cells #[.int .i64 x.op, .int .i64 x.a, .int .i64 x.b, .int .i64 x.c, .slice oal x.l.length capl] 25)).drewN nq).setCell ⟨w6.heap.size, 1, none⟩ (.int .i64 (turn x.a))).setCell ⟨w6.heap.size, 2, none⟩ (.int .i64 (turn x.b))) ⟨x.op, turn x.a, turn x.b, x.c, x.l⟩ (.slice oal x.l.length capl) := (((S7.zero w6 x (.slice oal x.l.length capl) nq).a (turn x.a)).b (turn x.b))
              generalize ((((w6.alloc (.cells #[.int .i64 x.op, .int .i64 x.a, .int .i64 x.b, .int .i64 x.c, .slice oal x.l.length capl] 25)).drewN nq).setCell ⟨w6.heap.size, 1, none⟩ (.int .i64 (turn x.a))).setCell ⟨w6.heap.size, 2, none⟩ (.int .i64 (turn x.b))) = W7 at h7 ⊢
              have hbx7 := h7.box
              have C7 := Lib.hid (C6.out.trans (h7.below.mono C6.out.size))
              obtain ⟨t0, t1, t2, t3, t4⟩ := box_cells hbx7
              have hown2 := row_below (alloc_below W7 (.cells #[.int .i64 x.op, .int .i64 (turn x.a), .int .i64 (turn x.b), .int .i64 x.c, .slice oal x.l.length capl] 25)) (row_below C7.out HOWN.out)
              have D7 := HBK.out.trans (C7.out.mono HBK.out.size)
              have hsz2 : wo.heap.size ≤ (W7.alloc (.cells #[.int .i64 x.op, .int .i64 (turn x.a), .int .i64 (turn x.b), .int .i64 x.c, .slice oal x.l.length capl] 25)).heap.size := Nat.le_trans D7.size (alloc_below W7 _).size
              have hsz3 : wo.heap.size ≤ W7.heap.size := D7.size
              have HD7 := Lib.hid D7
              obtain ⟨i25, hi25, hz25, hs25, hb25⟩ := info_parts info25
              clear h7 hbx7 y0 y1 y2 y3 y4 D7
              go_wp2_with (at_builtin; refine wpList_append_own _ rfl (.tmp 134) (.tmp 136) 39 rfl wo.heap.size 25 i25 _ 5 56 Tryd.underlying39 hi25 hz25 hs25 hb25 rfl (by decide) (.slice ou k capu) k _ rfl hown2 ⟨W7.heap.size, 0, none⟩ 1 1 [.int .i64 x.op, .int .i64 (turn x.a), .int .i64 (turn x.b), .int .i64 x.c, .slice oal x.l.length capl] rfl rfl ?a61 ?a62 ?a63 ?a64 ?a65 ?_)
              try case a61 => exact new_cells W7 [.int .i64 x.op, .int .i64 (turn x.a), .int .i64 (turn x.b), .int .i64 x.c, .slice oal x.l.length capl] 25 _ rfl
              try case a62 => first | rfl | (intro u hu; simp at hu; rcases hu with rfl | rfl | rfl | rfl | rfl <;> rfl) | simp [Value.oneCell']
              try case a63 => unfold maxLen; omega
              try case a64 => omega
              try case a65 => first | exact hsz2 | omega
              intro v' w' hown' hgrow _
              have hown3 : w'.ownsRow wo.heap.size 25 5 v' (k + 1) (cellsF ((fl.take (k + 1)).map rnPr)) := by
                rw [take_snoc fl k _ HPR.out, List.map_append, cellsF_append', show List.map rnPr [(x, (.slice oal x.l.length capl))] = [(⟨x.op, turn x.a, turn x.b, x.c, x.l⟩, (.slice oal x.l.length capl))] from by simp only [List.map_cons, List.map_nil, rnPr, HY.out], List.map_take]
                exact hown'
              have hbk' : Below wo.heap.size wo w' := (HD7.out.alloc HD7.out.size _).grown hgrow hsz2 fun j hj => (hown2.lt j hj).1
              obtain ⟨og', g', cap', rfl, hog'⟩ := row_shape hown3
              obtain rfl := hog' (by omega)
              have H3 := Lib.hid (And.intro hown3 hbk')
              clear hown' hgrow hown2 hown3 hbk hbk' hog' t0 t1 t2 t3 t4 hi25 hz25 hs25 hb25
              go_wp2
              go_roundw
              case rel => exact ⟨k + 1, by omega, by go_num, H3.out.1, H3.out.2⟩
              case measure => simp [intOf]; omega
          | f =>
            rcases Bool.eq_false_or_eq_true (x.b == x.a) with hba | hba
            · rcases Bool.eq_false_or_eq_true (x.c == x.b) with hcb | hcb
              · skip
                rw [writesV_some]
                obtain ⟨rfl, hb5⟩ := q3.out (by simp)
                have l0 := q4.out 0 _ rfl
                simp only [Nat.add_zero] at l0
                have l1 := q4.out 1 _ rfl
                go_wp2_with fail
                go_quiet (fail)
                go_upto_region 27 with (go_at_call 25; refine (turned_any _ _).mono ?_; rintro e w7 ⟨rfl, rfl⟩)
                have h7 : S7 w6 (((((w6.alloc (.cells #[.int .i64 x.op, .int .i64 x.a, .int .i64 x.b, .int .i64 x.c, .slice oal x.l.length capl] 25)).drewN nq).setCell ⟨w6.heap.size, 1, none⟩ (.int .i64 (turn x.a))).setCell ⟨w6.heap.size, 2, none⟩ (.int .i64 (turn x.b))).setCell ⟨w6.heap.size, 3, none⟩ (.int .i64 (turn x.c))) ⟨x.op, turn x.a, turn x.b, turn x.c, x.l⟩ (.slice oal x.l.length capl) := ((((S7.zero w6 x (.slice oal x.l.length capl) nq).a (turn x.a)).b (turn x.b)).c (turn x.c))
                generalize (((((w6.alloc (.cells #[.int .i64 x.op, .int .i64 x.a, .int .i64 x.b, .int .i64 x.c, .slice oal x.l.length capl] 25)).drewN nq).setCell ⟨w6.heap.size, 1, none⟩ (.int .i64 (turn x.a))).setCell ⟨w6.heap.size, 2, none⟩ (.int .i64 (turn x.b))).setCell ⟨w6.heap.size, 3, none⟩ (.int .i64 (turn x.c))) = W7 at h7 ⊢
                have hbx7 := h7.box
                have C7 := Lib.hid (C6.out.trans (h7.below.mono C6.out.size))
                obtain ⟨t0, t1, t2, t3, t4⟩ := box_cells hbx7
                have hown2 := row_below (alloc_below W7 (.cells #[.int .i64 x.op, .int .i64 (turn x.a), .int .i64 (turn x.b), .int .i64 (turn x.c), .slice oal x.l.length capl] 25)) (row_below C7.out HOWN.out)
                have D7 := HBK.out.trans (C7.out.mono HBK.out.size)
                have hsz2 : wo.heap.size ≤ (W7.alloc (.cells #[.int .i64 x.op, .int .i64 (turn x.a), .int .i64 (turn x.b), .int .i64 (turn x.c), .slice oal x.l.length capl] 25)).heap.size := Nat.le_trans D7.size (alloc_below W7 _).size
                have hsz3 : wo.heap.size ≤ W7.heap.size := D7.size
                have HD7 := Lib.hid D7
                obtain ⟨i25, hi25, hz25, hs25, hb25⟩ := info_parts info25
                clear h7 hbx7 y0 y1 y2 y3 y4 D7
                go_wp2_with (at_builtin; refine wpList_append_own _ rfl (.tmp 134) (.tmp 136) 39 rfl wo.heap.size 25 i25 _ 5 56 Tryd.underlying39 hi25 hz25 hs25 hb25 rfl (by decide) (.slice ou k capu) k _ rfl hown2 ⟨W7.heap.size, 0, none⟩ 1 1 [.int .i64 x.op, .int .i64 (turn x.a), .int .i64 (turn x.b), .int .i64 (turn x.c), .slice oal x.l.length capl] rfl rfl ?a71 ?a72 ?a73 ?a74 ?a75 ?_)
                try case a71 => exact new_cells W7 [.int .i64 x.op, .int .i64 (turn x.a), .int .i64 (turn x.b), .int .i64 (turn x.c), .slice oal x.l.length capl] 25 _ rfl
                try case a72 => first | rfl | (intro u hu; simp at hu; rcases hu with rfl | rfl | rfl | rfl | rfl <;> rfl) | simp [Value.oneCell']
                try case a73 => unfold maxLen; omega
                try case a74 => omega
                try case a75 => first | exact hsz2 | omega
                intro v' w' hown' hgrow _
                have hown3 : w'.ownsRow wo.heap.size 25 5 v' (k + 1) (cellsF ((fl.take (k + 1)).map rnPr)) := by
                  rw [take_snoc fl k _ HPR.out, List.map_append, cellsF_append', show List.map rnPr [(x, (.slice oal x.l.length capl))] = [(⟨x.op, turn x.a, turn x.b, turn x.c, x.l⟩, (.slice oal x.l.length capl))] from by simp only [List.map_cons, List.map_nil, rnPr, HY.out], List.map_take]
                  exact hown'
                have hbk' : Below wo.heap.size wo w' := (HD7.out.alloc HD7.out.size _).grown hgrow hsz2 fun j hj => (hown2.lt j hj).1
                obtain ⟨og', g', cap', rfl, hog'⟩ := row_shape hown3
                obtain rfl := hog' (by omega)
                have H3 := Lib.hid (And.intro hown3 hbk')
                clear hown' hgrow hown2 hown3 hbk hbk' hog' t0 t1 t2 t3 t4 hi25 hz25 hs25 hb25
                go_wp2
                go_roundw
                case rel => exact ⟨k + 1, by omega, by go_num, H3.out.1, H3.out.2⟩
                case measure => simp [intOf]; omega
              · skip
                rw [writesV_some]
                obtain ⟨rfl, hb5⟩ := q3.out (by simp)
                have l0 := q4.out 0 _ rfl
                simp only [Nat.add_zero] at l0
                have l1 := q4.out 1 _ rfl
                go_wp2_with fail
                go_quiet (fail)
                go_upto_region 27 with (go_at_call 25; refine (turned_any _ _).mono ?_; rintro e w7 ⟨rfl, rfl⟩)
                have h7 : S7 w6 (((((w6.alloc (.cells #[.int .i64 x.op, .int .i64 x.a, .int .i64 x.b, .int .i64 x.c, .slice oal x.l.length capl] 25)).drewN nq).setCell ⟨w6.heap.size, 1, none⟩ (.int .i64 (turn x.a))).setCell ⟨w6.heap.size, 2, none⟩ (.int .i64 (turn x.b))).setCell ⟨w6.heap.size, 3, none⟩ (.int .i64 (turn x.c))) ⟨x.op, turn x.a, turn x.b, turn x.c, x.l⟩ (.slice oal x.l.length capl) := ((((S7.zero w6 x (.slice oal x.l.length capl) nq).a (turn x.a)).b (turn x.b)).c (turn x.c))
                generalize (((((w6.alloc (.cells #[.int .i64 x.op, .int .i64 x.a, .int .i64 x.b, .int .i64 x.c, .slice oal x.l.length capl] 25)).drewN nq).setCell ⟨w6.heap.size, 1, none⟩ (.int .i64 (turn x.a))).setCell ⟨w6.heap.size, 2, none⟩ (.int .i64 (turn x.b))).setCell ⟨w6.heap.size, 3, none⟩ (.int .i64 (turn x.c))) = W7 at h7 ⊢
                have hbx7 := h7.box
                have C7 := Lib.hid (C6.out.trans (h7.below.mono C6.out.size))
                obtain ⟨t0, t1, t2, t3, t4⟩ := box_cells hbx7
                have hown2 := row_below (alloc_below W7 (.cells #[.int .i64 x.op, .int .i64 (turn x.a), .int .i64 (turn x.b), .int .i64 (turn x.c), .slice oal x.l.length capl] 25)) (row_below C7.out HOWN.out)
                have D7 := HBK.out.trans (C7.out.mono HBK.out.size)
                have hsz2 : wo.heap.size ≤ (W7.alloc (.cells #[.int .i64 x.op, .int .i64 (turn x.a), .int .i64 (turn x.b), .int .i64 (turn x.c), .slice oal x.l.length capl] 25)).heap.size := Nat.le_trans D7.size (alloc_below W7 _).size
                have hsz3 : wo.heap.size ≤ W7.heap.size := D7.size
                have HD7 := Lib.hid D7
                obtain ⟨i25, hi25, hz25, hs25, hb25⟩ := info_parts info25
                clear h7 hbx7 y0 y1 y2 y3 y4 D7
                go_wp2_with (at_builtin; refine wpList_append_own _ rfl (.tmp 134) (.tmp 136) 39 rfl wo.heap.size 25 i25 _ 5 56 Tryd.underlying39 hi25 hz25 hs25 hb25 rfl (by decide) (.slice ou k capu) k _ rfl hown2 ⟨W7.heap.size, 0, none⟩ 1 1 [.int .i64 x.op, .int .i64 (turn x.a), .int .i64 (turn x.b), .int .i64 (turn x.c), .slice oal x.l.length capl] rfl rfl ?a81 ?a82 ?a83 ?a84 ?a85 ?_)
                try case a81 => exact new_cells W7 [.int .i64 x.op, .int .i64 (turn x.a), .int .i64 (turn x.b), .int .i64 (turn x.c), .slice oal x.l.length capl] 25 _ rfl
                try case a82 => first | rfl | (intro u hu; simp at hu; rcases hu with rfl | rfl | rfl | rfl | rfl <;> rfl) | simp [Value.oneCell']
                try case a83 => unfold maxLen; omega
                try case a84 => omega
                try case a85 => first | exact hsz2 | omega
                intro v' w' hown' hgrow _
                have hown3 : w'.ownsRow wo.heap.size 25 5 v' (k + 1) (cellsF ((fl.take (k + 1)).map rnPr)) := by
                  rw [take_snoc fl k _ HPR.out, List.map_append, cellsF_append', show List.map rnPr [(x, (.slice oal x.l.length capl))] = [(⟨x.op, turn x.a, turn x.b, turn x.c, x.l⟩, (.slice oal x.l.length capl))] from by simp only [List.map_cons, List.map_nil, rnPr, HY.out], List.map_take]
                  exact hown'
                have hbk' : Below wo.heap.size wo w' := (HD7.out.alloc HD7.out.size _).grown hgrow hsz2 fun j hj => (hown2.lt j hj).1
                obtain ⟨og', g', cap', rfl, hog'⟩ := row_shape hown3
                obtain rfl := hog' (by omega)
                have H3 := Lib.hid (And.intro hown3 hbk')
                clear hown' hgrow hown2 hown3 hbk hbk' hog' t0 t1 t2 t3 t4 hi25 hz25 hs25 hb25
                go_wp2
                go_roundw
                case rel => exact ⟨k + 1, by omega, by go_num, H3.out.1, H3.out.2⟩
                case measure => simp [intOf]; omega
            · skip
              rw [writesV_some]
              obtain ⟨rfl, hb5⟩ := q3.out (by simp)
              have l0 := q4.out 0 _ rfl
              simp only [Nat.add_zero] at l0
              have l1 := q4.out 1 _ rfl
              go_wp2_with fail
              go_quiet (fail)
              go_upto_region 27 with (go_at_call 25; refine (turned_any _ _).mono ?_; rintro e w7 ⟨rfl, rfl⟩)
              have h7 : S7 w6 (((((w6.alloc (.cells #[.int .i64 x.op, .int .i64 x.a, .int .i64 x.b, .int .i64 x.c, .slice oal x.l.length capl] 25)).drewN nq).setCell ⟨w6.heap.size, 1, none⟩ (.int .i64 (turn x.a))).setCell ⟨w6.heap.size, 2, none⟩ (.int .i64 (turn x.b))).setCell ⟨w6.heap.size, 3, none⟩ (.int .i64 (turn x.c))) ⟨x.op, turn x.a, turn x.b, turn x.c, x.l⟩ (.slice oal x.l.length capl) := ((((S7.zero w6 x (.slice oal x.l.length capl) nq).a (turn x.a)).b (turn x.b)).c (turn x.c))
              generalize (((((w6.alloc (.cells #[.int .i64 x.op, .int .i64 x.a, .int .i64 x.b, .int .i64 x.c, .slice oal x.l.length capl] 25)).drewN nq).setCell ⟨w6.heap.size, 1, none⟩ (.int .i64 (turn x.a))).setCell ⟨w6.heap.size, 2, none⟩ (.int .i64 (turn x.b))).setCell ⟨w6.heap.size, 3, none⟩ (.int .i64 (turn x.c))) = W7 at h7 ⊢
              have hbx7 := h7.box
              have C7 := Lib.hid (C6.out.trans (h7.below.mono C6.out.size))
              obtain ⟨t0, t1, t2, t3, t4⟩ := box_cells hbx7
              have hown2 := row_below (alloc_below W7 (.cells #[.int .i64 x.op, .int .i64 (turn x.a), .int .i64 (turn x.b), .int .i64 (turn x.c), .slice oal x.l.length capl] 25)) (row_below C7.out HOWN.out)
              have D7 := HBK.out.trans (C7.out.mono HBK.out.size)
              have hsz2 : wo.heap.size ≤ (W7.alloc (.cells #[.int .i64 x.op, .int .i64 (turn x.a), .int .i64 (turn x.b), .int .i64 (turn x.c), .slice oal x.l.length capl] 25)).heap.size := Nat.le_trans D7.size (alloc_below W7 _).size
              have hsz3 : wo.heap.size ≤ W7.heap.size := D7.size
              have HD7 := Lib.hid D7
              obtain ⟨i25, hi25, hz25, hs25, hb25⟩ := info_parts info25
              clear h7 hbx7 y0 y1 y2 y3 y4 D7
              go_wp2_with (at_builtin; refine wpList_append_own _ rfl (.tmp 134) (.tmp 136) 39 rfl wo.heap.size 25 i25 _ 5 56 Tryd.underlying39 hi25 hz25 hs25 hb25 rfl (by decide) (.slice ou k capu) k _ rfl hown2 ⟨W7.heap.size, 0, none⟩ 1 1 [.int .i64 x.op, .int .i64 (turn x.a), .int .i64 (turn x.b), .int .i64 (turn x.c), .slice oal x.l.length capl] rfl rfl ?a91 ?a92 ?a93 ?a94 ?a95 ?_)
              try case a91 => exact new_cells W7 [.int .i64 x.op, .int .i64 (turn x.a), .int .i64 (turn x.b), .int .i64 (turn x.c), .slice oal x.l.length capl] 25 _ rfl
              try case a92 => first | rfl | (intro u hu; simp at hu; rcases hu with rfl | rfl | rfl | rfl | rfl <;> rfl) | simp [Value.oneCell']
              try case a93 => unfold maxLen; omega
              try case a94 => omega
              try case a95 => first | exact hsz2 | omega
              intro v' w' hown' hgrow _
              have hown3 : w'.ownsRow wo.heap.size 25 5 v' (k + 1) (cellsF ((fl.take (k + 1)).map rnPr)) := by
                rw [take_snoc fl k _ HPR.out, List.map_append, cellsF_append', show List.map rnPr [(x, (.slice oal x.l.length capl))] = [(⟨x.op, turn x.a, turn x.b, turn x.c, x.l⟩, (.slice oal x.l.length capl))] from by simp only [List.map_cons, List.map_nil, rnPr, HY.out], List.map_take]
                exact hown'
              have hbk' : Below wo.heap.size wo w' := (HD7.out.alloc HD7.out.size _).grown hgrow hsz2 fun j hj => (hown2.lt j hj).1
              obtain ⟨og', g', cap', rfl, hog'⟩ := row_shape hown3
              obtain rfl := hog' (by omega)
              have H3 := Lib.hid (And.intro hown3 hbk')
              clear hown' hgrow hown2 hown3 hbk hbk' hog' t0 t1 t2 t3 t4 hi25 hz25 hs25 hb25
              go_wp2
              go_roundw
              case rel => exact ⟨k + 1, by omega, by go_num, H3.out.1, H3.out.2⟩
              case measure => simp [intOf]; omega
        · have t6 : decide ((k : Int) < f.length) = false := by simp; omega
          obtain rfl : k = f.length := by omega
          have hown := HOWN.out
          rw [show fl.take f.length = fl from by rw [← HFLL.out, List.take_length]] at hown
          have hK8 : KQ B w wr := KQ.of_below Bk
          have hFO := FunO.own (B := B) (w := wr) (base := wo.heap.size) (v := .slice ou f.length capu) (fl := fl.map rnPr) (by rw [List.length_map, HFLL.out]; exact hown) (hN_rn (fun p hp => (E3.out p hp).kq hK8))
          rw [fst_rn, E1.out] at hFO
          have HFO := Lib.hid hFO
          have BB8 : Below B w2 wr := HBW.out.trans (hbk.mono hBr)
          have hB8 : B ≤ wr.heap.size := Nat.le_trans hBr hbk.size
          have qbox8 := keepB QBOX.out hbk
          have qown8 := row_below (alloc_below wr (.cells #[.slice ou f.length capu] 39)) (row_below hbk QOWN.out)
          have QF8 := Lib.hid (show ∀ (i : Nat) (fv : Value) (g : List In), fvs[i]? = some fv → ((p.fs.take j).map (List.map rnI))[i]? = some g → FunO B wr fv g from fun i fv g h1 h2 => (QF.out i fv g h1 h2).kq (KQ.of_below hbk))
          have z8 : wr.cell? ⟨B, 0, none⟩ = some vq := by simp [World.cell?, qbox8]
          obtain ⟨i39, hi39, hz39, hs39, hb39⟩ := info_parts info39
          have hfn : fvs.length + 1 ≤ 100000000 := by have h1 := QLEN.out; rw [List.length_map, List.length_take] at h1; omega
          have hB8' : B ≤ (wr.alloc (.cells #[.slice ou f.length capu] 39)).heap.size := Nat.le_trans hB8 (alloc_below wr _).size
          clear hown hFO hK8 hbk
          go_wp2_with (at_builtin; refine wpList_append_own _ rfl (.tmp 139) (.tmp 141) 32 rfl B 39 i39 _ 1 24 Tryd.underlying32 hi39 hz39 hs39 hb39 rfl (by decide) vq fvs.length _ rfl qown8 ⟨wr.heap.size, 0, none⟩ 1 1 [.slice ou f.length capu] rfl rfl ?e1 ?e2 ?e3 ?e4 ?e5 ?_)
          try case e1 => exact new_cells wr [.slice ou f.length capu] 39 _ rfl
          try case e2 => first | rfl | (intro u hu; simp at hu; rcases hu with rfl; rfl)
          try case e3 => unfold maxLen; omega
          try case e4 => omega
          try case e5 => first | exact hB8' | omega
          intro v6 w6 hown6 hg6 _
          obtain ⟨og6, g6, cap6, rfl, hog6⟩ := row_shape hown6
          obtain rfl := hog6 (by omega)
          have hnext := RenQ.next (p := p) (j := j) BB8 hB8 qbox8 QLEN.out QF8.out HFO.out qown8 hown6 hg6 HFJ.out rfl
          have hq6 := grown_other qown8 hg6 ((heap_alloc_old _ _ (Array.getElem?_eq_some_iff.1 qbox8).1).trans qbox8) (by decide)
          have z6 : w6.cell? ⟨B, 0, none⟩ = some vq := by simp [World.cell?, hq6]
          have y6 : w6.frozen? ⟨B, 0, none⟩ = false := by simp [World.frozen?, hq6]
          replace hnext := Lib.hid hnext
          clear hown6 hg6 qown8 z8 hq6 qbox8 QF8 hi39 hz39 hs39 hb39
          go_wp2
          go_roundw
          case rel => exact ⟨j + 1, by omega, by go_num, hnext.out⟩
          case measure => simp [intOf]; omega
    · have t5 : decide ((j : Int) < p.fs.length) = false := by simp; omega
      obtain rfl : j = p.fs.length := by omega
      have hQ : QAt B B wr (.slice oac p.cs.length capc) ((p.fs.take p.fs.length).map (List.map rnI)) := ⟨vq, fvs, qbox, qown, QLEN.out, QF.out⟩
      rw [List.take_length] at hQ
      obtain ⟨vq', hq', hPq0⟩ := hQ.pg (HCos.out.below Bwr)
      have hPq : PgV wr vq' (.slice oac p.cs.length capc) (rnP p) := hPq0
      have hLq : LabOk (rnP p) := fun g hg x hx => by
        obtain ⟨f, hf, rfl⟩ := List.mem_map.1 hg
        obtain ⟨y, hy, rfl⟩ := List.mem_map.1 hx
        exact Nat.le_trans (S1.out.l f hf y hy) (by decide)
      have hLp : LabOk p := fun g hg x hx => Nat.le_trans (S1.out.l g hg x hx) (by decide)
      have zq : wr.cell? ⟨B, 0, none⟩ = some vq' := by simp [World.cell?, hq']
      have zq1 : wr.cell? ⟨B, 1, none⟩ = some (.slice oac p.cs.length capc) := by simp [World.cell?, hq']
      have hc0 := Lib.hid (show ∀ w', Below wr.heap.size wr w' → w'.cell? ⟨w.heap.size, 0, none⟩ = some (.slice oaf p.fs.length capf) ∧ w'.cell? ⟨w.heap.size, 1, none⟩ = some (.slice oac p.cs.length capc) ∧ w'.cell? ⟨B, 0, none⟩ = some vq' ∧ w'.cell? ⟨B, 1, none⟩ = some (.slice oac p.cs.length capc) from fun w' h => by
        have h1 := keepB HXR.out h
        have h2 := keepB hq' h
        simp [World.cell?, h1, h2])
      have hgo := Lib.hid (show ∀ w', Below wr.heap.size wr w' → Below w.heap.size w w' ∧ PgV w' (.slice oaf p.fs.length capf) (.slice oac p.cs.length capc) p ∧ PgV w' vq' (.slice oac p.cs.length capc) (rnP p) ∧ TabAt w' from fun w' h => by
        have hb := Bwr.trans (h.mono Bwr.size)
        exact ⟨hb, HP.out.below hb, hPq.below h, HT.out.below hb (by omega)⟩)
      have HLP := Lib.hid hLp
      have HLQ := Lib.hid hLq
      have B0 : Below wr.heap.size wr wr := Below.refl _ _
      clear hQ hq' hPq0 hPq hLq hLp qbox qown
      go_wp2_with fail
      go_region_held3 (fun w' => w'.cell? ⟨w.heap.size, 0, none⟩ = some (.slice oaf p.fs.length capf) ∧ w'.cell? ⟨w.heap.size, 1, none⟩ = some (.slice oac p.cs.length capc) ∧ w'.cell? ⟨B, 0, none⟩ = some vq' ∧ w'.cell? ⟨B, 1, none⟩ = some (.slice oac p.cs.length capc)) (first | (refine ⟨?_, ?_, ?_, ?_⟩ <;> assumption) | go_keep)
        (first
          | (go_at_call_of 21 (Value.slice oaf p.fs.length capf); refine (valid_any _ _ _ p (hgo.out _ (by exact B0.drew)).2.1 HLP.out (hgo.out _ (by exact B0.drew)).2.2.2).mono ?_; rintro e w6 ⟨bp, rfl, hbp, hb6⟩; have B6 : Below wr.heap.size wr w6 := B0.trans ((below_undrew hb6).mono B0.size); obtain ⟨y0, y1, y2, y3⟩ := hc0.out w6 B6; clear hb6; replace B6 := Lib.hid B6; replace hbp := Lib.hid hbp)
          | (go_at_call_of 21 vq'; refine (valid_any _ _ _ (rnP p) (hgo.out _ B6.out).2.2.1 HLQ.out (hgo.out _ B6.out).2.2.2).mono ?_; rintro e w7 ⟨bq, rfl, hbq, hb7⟩; have B7 : Below wr.heap.size wr w7 := B6.out.trans (hb7.mono B6.out.size); obtain ⟨x0, x1, x2, x3⟩ := hc0.out w7 B7; clear hb7; replace B7 := Lib.hid B7; replace hbq := Lib.hid hbq))
      have BW7 := Lib.hid (hgo.out w7 B7.out).1
      have hbb : bp = bq := by
        have h1 := hbp.out
        have h2 := hbq.out
        rw [pg_rn_iff] at h2
        cases bp <;> cases bq <;> simp_all
      subst hbb
      clear zq zq1 z0 z1 y0 y1 y2 y3 x0 x1 x2 x3
      cases bp
      all_goals
        go_wp2
        go_ret
        exact ⟨rfl, BW7.out⟩
end Go.Proofs.YtobhfmliaecbjaaDoor
