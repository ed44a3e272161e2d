/-
  Text of the document's own. Conditions: the program lies in the heap, and is small.
-/
import Derived.Test.YtobhfmliaecbjaaDoorDig
import Derived.Test.YtobhfmliaecbjaaDoorText
namespace Go.Proofs.YtobhfmliaecbjaaDoor
open Go.RowKit

def Adds (a b c : ByteArray) : Prop := ∀ W, (Op.stringOp .add a b).run Tryd.prog W = .ok (.string c) W
theorem adds_bt (l m : List UInt8) (h : l.length + m.length ≤ 1000000000) : Adds (bt l) (bt m) (bt (l ++ m)) := fun W => add_text l m h W

theorem co_adds (acc : List UInt8) (c : Cr) (h : I64 [c.re, c.ca, c.wo, c.ar]) (hl : acc.length ≤ 100000000) : ∃ S1 S2 S3 S4 S5 S6 S7 S8 S9 : ByteArray,
    (Adds (bt acc) ⟨#[99, 111, 32]⟩ S1 ∧ Adds S1 (bt (Lib.itoa c.re)) S2 ∧ Adds S2 ⟨#[32]⟩ S3 ∧ Adds S3 (bt (Lib.itoa c.ca)) S4 ∧ Adds S4 ⟨#[32]⟩ S5 ∧ Adds S5 (bt (Lib.itoa c.wo)) S6 ∧ Adds S6 ⟨#[32]⟩ S7 ∧ Adds S7 (bt (Lib.itoa c.ar)) S8 ∧ Adds S8 ⟨#[10]⟩ S9) ∧ S9 = bt (acc ++ coLine c) := by
  have h1 := Lib.itoa_length_le c.re (h c.re (by simp)).1 (h c.re (by simp)).2
  have h2 := Lib.itoa_length_le c.ca (h c.ca (by simp)).1 (h c.ca (by simp)).2
  have h3 := Lib.itoa_length_le c.wo (h c.wo (by simp)).1 (h c.wo (by simp)).2
  have h4 := Lib.itoa_length_le c.ar (h c.ar (by simp)).1 (h c.ar (by simp)).2
  refine ⟨_, _, _, _, _, _, _, _, _, ⟨adds_bt acc [99, 111, 32] ?_, adds_bt _ _ ?_, adds_bt _ [32] ?_, adds_bt _ _ ?_, adds_bt _ [32] ?_, adds_bt _ _ ?_, adds_bt _ [32] ?_, adds_bt _ _ ?_, adds_bt _ [10] ?_⟩, ?_⟩
  all_goals first
    | (simp only [List.length_append, List.length_cons, List.length_nil]; omega)
    | (simp [coLine, lineB])
theorem ins_adds (acc : List UInt8) (x : In) (h : I64 (x.op :: ([x.a, x.b, x.c] ++ x.l))) (hl : acc.length ≤ 100000000) : ∃ S1 S2 S3 S4 S5 S6 S7 : ByteArray,
    (Adds (bt acc) (bt (Lib.itoa x.op)) S1 ∧ Adds S1 ⟨#[32]⟩ S2 ∧ Adds S2 (bt (Lib.itoa x.a)) S3 ∧ Adds S3 ⟨#[32]⟩ S4 ∧ Adds S4 (bt (Lib.itoa x.b)) S5 ∧ Adds S5 ⟨#[32]⟩ S6 ∧ Adds S6 (bt (Lib.itoa x.c)) S7) ∧ S7 = bt (acc ++ Lib.itoa x.op ++ [x.a, x.b, x.c].flatMap fun n => 32 :: Lib.itoa n) := by
  have h1 := Lib.itoa_length_le x.op (h x.op (by simp)).1 (h x.op (by simp)).2
  have h2 := Lib.itoa_length_le x.a (h x.a (by simp)).1 (h x.a (by simp)).2
  have h3 := Lib.itoa_length_le x.b (h x.b (by simp)).1 (h x.b (by simp)).2
  have h4 := Lib.itoa_length_le x.c (h x.c (by simp)).1 (h x.c (by simp)).2
  refine ⟨_, _, _, _, _, _, _, ⟨adds_bt acc _ ?_, adds_bt _ [32] ?_, adds_bt _ _ ?_, adds_bt _ [32] ?_, adds_bt _ _ ?_, adds_bt _ [32] ?_, adds_bt _ _ ?_⟩, ?_⟩
  all_goals first
    | omega
    | (simp only [List.length_append, List.length_cons, List.length_nil]; omega)
    | simp
theorem bx_cells5 {w : World} {k : Nat} {v0 v1 v2 v3 v4 : Value} {t : TypeId} (h : w.heap[k]? = some (.cells #[v0, v1, v2, v3, v4] t)) :
    w.cell? ⟨k, 0, none⟩ = some v0 ∧ w.cell? ⟨k, 1, none⟩ = some v1 ∧ w.cell? ⟨k, 2, none⟩ = some v2 ∧ w.cell? ⟨k, 3, none⟩ = some v3 ∧ w.cell? ⟨k, 4, none⟩ = some v4 := by
  simp [World.cell?, h]

set_option maxRecDepth 100000 in
set_option maxHeartbeats 8000000 in
theorem refText_any (w : World) (fv cv : Value) (p : Pg) (hP : PgV w fv cv p) (hS : SmallP p) (hN : NumP p) : Calls Tryd.prog 24 #[.agg #[fv, cv]] w fun e w' => e = .returned (.string (bt (textB p))) ∧ Below w.heap.size w w' := by
  obtain ⟨⟨oaf, capf, bf, off, rfl, hf1, hf2, hf3, hf4⟩, oac, capc, bc, offc, rfl, hc1, hc2, hc3, hc4⟩ := hP
  unfold maxLen at hf2 hc2
  have hcs := hS.cs
  have hfs := hS.fs
  have HS := Lib.hid hS
  have HN := Lib.hid hN
  replace hf3 := Lib.hid hf3
  replace hf4 := Lib.hid hf4
  replace hc3 := Lib.hid hc3
  replace hc4 := Lib.hid hc4
  clear hS hN
  obtain ⟨W, hW⟩ : ∃ W, W = w.alloc (.cells #[.slice oaf p.fs.length capf, .slice oac p.cs.length capc] 35) := ⟨_, rfl⟩
  have hbW : Below w.heap.size w W := by rw [hW]; exact alloc_below _ _
  have hx0 : W.heap[w.heap.size]? = some (.cells #[.slice oaf p.fs.length capf, .slice oac p.cs.length capc] 35) := by rw [hW, heap_alloc_new]
  have hpb : Hid (∀ w', Below W.heap.size W w' → w'.cell? ⟨w.heap.size, 0, none⟩ = some (.slice oaf p.fs.length capf) ∧ w'.cell? ⟨w.heap.size, 1, none⟩ = some (.slice oac p.cs.length capc) ∧ w.heap.size < w'.heap.size ∧ Below w.heap.size w w') := Lib.hid fun w' h => by
    have e0 : w'.heap[w.heap.size]? = some (.cells #[.slice oaf p.fs.length capf, .slice oac p.cs.length capc] 35) := (h.block _ (Array.getElem?_eq_some_iff.1 hx0).1).trans hx0
    have hl := (Array.getElem?_eq_some_iff.1 e0).1
    exact ⟨by simp [World.cell?, e0], by simp [World.cell?, e0], hl, hbW.trans (h.mono hbW.size)⟩
  obtain ⟨z0, z1, zl, -⟩ := hpb.out W (Below.refl _ _)
  clear hx0 hbW
  go_enter Tryd.func24, Tryd.ntmps24
  go_wp2_with fail
  rw [← hW]
  clear hW
  go_loopw [3, 4] (fun us ui wr => ∃ j : Nat, j ≤ p.cs.length ∧ ui = .int .i64 j ∧ us = .string (bt ((p.cs.take j).flatMap coLine)) ∧ Below W.heap.size W wr) (fun _ ui _ => p.cs.length - (intOf ui).toNat)
  case atStart => exact ⟨0, by omega, rfl, rfl, Below.refl _ _⟩
  case round =>
    clear z0 z1 zl
    obtain ⟨j, hj, rfl, rfl, hb⟩ := hrel
    obtain ⟨z0, z1, zl, hbw⟩ := hpb.out wr hb
    by_cases hjl : j < p.cs.length
    · have t1 : decide ((j : Int) < p.cs.length) = true := by simp; omega
      obtain ⟨rfl, hbc⟩ := hc3.out (by omega)
      obtain ⟨c, hc⟩ : ∃ c, p.cs[j]? = some c := ⟨_, List.getElem?_eq_getElem hjl⟩
      obtain ⟨sn, g0, g1, g2, g3, g4⟩ := hc4.out j c hc
      have HTK := Lib.hid (take_snoc p.cs j c hc)
      have HC := Lib.hid (HN.out.co c (List.mem_of_getElem? hc))
      replace g0 := (hbw.cell (p := ⟨bc, offc + j * 5, none⟩) hbc).trans g0
      replace g1 := (hbw.cell (p := ⟨bc, offc + j * 5 + 1, none⟩) hbc).trans g1
      replace g2 := (hbw.cell (p := ⟨bc, offc + j * 5 + 2, none⟩) hbc).trans g2
      replace g3 := (hbw.cell (p := ⟨bc, offc + j * 5 + 3, none⟩) hbc).trans g3
      replace g4 := (hbw.cell (p := ⟨bc, offc + j * 5 + 4, none⟩) hbc).trans g4
      have hal : ((p.cs.take j).flatMap coLine).length ≤ 100000000 := by
        have := flat_bound coLine 91 (p.cs.take j) (fun d hd => coLine_len (HN.out.co d (List.mem_of_mem_take hd)))
        rw [List.length_take] at this
        omega
      obtain ⟨S1, S2, S3, S4, S5, S6, S7, S8, S9, ⟨a1, a2, a3, a4, a5, a6, a7, a8, a9⟩, hS9⟩ := co_adds _ c HC.out hal
      have HS9 := Lib.hid hS9
      clear hc hal hS9
      unfold Adds at a1 a2 a3 a4 a5 a6 a7 a8 a9
      generalize bt ((p.cs.take j).flatMap coLine) = S0 at a1 ⊢
      go_upto_region 6 with fail
      have hbA := hb.trans ((alloc_below wr (.cells #[.string sn, .int .i64 c.re, .int .i64 c.ca, .int .i64 c.wo, .int .i64 c.ar] 55)).mono hb.size)
      have hxc := heap_alloc_new wr (.cells #[.string sn, .int .i64 c.re, .int .i64 c.ca, .int .i64 c.wo, .int .i64 c.ar] 55)
      generalize wr.alloc (.cells #[.string sn, .int .i64 c.re, .int .i64 c.ca, .int .i64 c.wo, .int .i64 c.ar] 55) = w1 at hbA hxc ⊢
      generalize wr.heap.size = bx at hxc ⊢
      have hkc : Hid (∀ w', Below w1.heap.size w1 w' → Below W.heap.size W w' ∧ w'.cell? ⟨bx, 1, none⟩ = some (.int .i64 c.re) ∧ w'.cell? ⟨bx, 2, none⟩ = some (.int .i64 c.ca) ∧ w'.cell? ⟨bx, 3, none⟩ = some (.int .i64 c.wo) ∧ w'.cell? ⟨bx, 4, none⟩ = some (.int .i64 c.ar)) := Lib.hid fun w' h => by
        have e := bx_cells5 ((h.block bx (Array.getElem?_eq_some_iff.1 hxc).1).trans hxc)
        exact ⟨hbA.trans (h.mono hbA.size), e.2.1, e.2.2.1, e.2.2.2.1, e.2.2.2.2⟩
      obtain ⟨-, y1, y2, y3, y4⟩ := hkc.out w1 (Below.refl _ _)
      clear hbA hxc g0 g1 g2 g3 g4 z0 z1 zl hb hbw
      go_region_held3 (fun w' => w'.cell? ⟨bx, 1, none⟩ = some (.int .i64 c.re) ∧ w'.cell? ⟨bx, 2, none⟩ = some (.int .i64 c.ca) ∧ w'.cell? ⟨bx, 3, none⟩ = some (.int .i64 c.wo) ∧ w'.cell? ⟨bx, 4, none⟩ = some (.int .i64 c.ar)) (first | (refine ⟨?_, ?_, ?_, ?_⟩ <;> assumption) | go_keep)
        (first
          | (go_at_call_of 39 (Value.int .i64 c.re); refine (digits_any c.re (HC.out c.re (by simp)) _).mono ?_; rintro e w2 ⟨rfl, hb2⟩; have B2 : Below w1.heap.size w1 w2 := below_undrew hb2; obtain ⟨-, p1, p2, p3, p4⟩ := hkc.out w2 B2; clear hb2; replace B2 := Lib.hid B2)
          | (go_at_call_of 39 (Value.int .i64 c.ca); refine (digits_any c.ca (HC.out c.ca (by simp)) _).mono ?_; rintro e w3 ⟨rfl, hb3⟩; have B3 : Below w1.heap.size w1 w3 := B2.out.trans (hb3.mono B2.out.size); obtain ⟨-, q1, q2, q3, q4⟩ := hkc.out w3 B3; clear hb3; replace B3 := Lib.hid B3)
          | (go_at_call_of 39 (Value.int .i64 c.wo); refine (digits_any c.wo (HC.out c.wo (by simp)) _).mono ?_; rintro e w4 ⟨rfl, hb4⟩; have B4 : Below w1.heap.size w1 w4 := B3.out.trans (hb4.mono B3.out.size); obtain ⟨-, r1, r2, r3, r4⟩ := hkc.out w4 B4; clear hb4; replace B4 := Lib.hid B4)
          | (go_at_call_of 39 (Value.int .i64 c.ar); refine (digits_any c.ar (HC.out c.ar (by simp)) _).mono ?_; rintro e w5 ⟨rfl, hb5⟩; have B5 : Below w1.heap.size w1 w5 := B4.out.trans (hb5.mono B4.out.size); obtain ⟨-, s1, s2, s3, s4⟩ := hkc.out w5 B5; clear hb5; replace B5 := Lib.hid B5))
      have BW := Lib.hid (hkc.out w5 B5.out).1
      go_wp2
      go_roundw
      case rel => exact ⟨j + 1, by omega, by go_num, by rw [HS9.out, HTK.out, List.flatMap_append, List.flatMap_singleton], BW.out⟩
      case measure => simp [intOf]; omega
    · have t1 : decide ((j : Int) < p.cs.length) = false := by simp; omega
      obtain rfl : j = p.cs.length := by omega
      rw [List.take_length]
      obtain ⟨acc0, hacc0⟩ : ∃ a, a = p.cs.flatMap coLine := ⟨_, rfl⟩
      rw [← hacc0]
      have hal0 : acc0.length ≤ 91 * 60 := by
        have := flat_bound coLine 91 p.cs (fun d hd => coLine_len (HN.out.co d hd))
        rw [hacc0]; omega
      replace hacc0 := Lib.hid hacc0
      have hB0 := Lib.hid hb
      obtain ⟨wo, hwo⟩ : ∃ wo, wo = wr := ⟨_, rfl⟩
      subst hwo
      have hst : bt acc0 = bt (acc0 ++ (p.fs.take 0).flatMap funLines) := by simp
      rw [hst]
      clear hst
      generalize hS : bt (acc0 ++ (p.fs.take 0).flatMap funLines) = S
      replace hS := Lib.hid hS
      go_wp2_with fail
      go_loopw [3, 6] (fun us ui wr => ∃ j : Nat, j ≤ p.fs.length ∧ ui = .int .i64 j ∧ us = .string (bt (acc0 ++ (p.fs.take j).flatMap funLines)) ∧ Below W.heap.size W wr) (fun _ ui _ => p.fs.length - (intOf ui).toNat)
      case atStart => exact ⟨0, by omega, rfl, by rw [hS.out], hB0.out⟩
      case round =>
        clear z0 z1 zl hB0 hb hbw hS
        obtain ⟨j, hj, rfl, rfl, hb⟩ := hrel
        obtain ⟨z0, z1, zl, hbw⟩ := hpb.out wr hb
        by_cases hjl : j < p.fs.length
        · have t2 : decide ((j : Int) < p.fs.length) = true := by simp; omega
          obtain ⟨rfl, hbf⟩ := hf3.out (by omega)
          obtain ⟨f, hf⟩ : ∃ f, p.fs[j]? = some f := ⟨_, List.getElem?_eq_getElem hjl⟩
          obtain ⟨fvj, g0, oaj, capj, bj, offj, rfl, q1, q2, q3, q4⟩ := hf4.out j f hf
          unfold maxLen at q2
          replace q3 := Lib.hid q3
          replace q4 := Lib.hid q4
          have HFM := Lib.hid (List.mem_of_getElem? hf)
          have HTK := Lib.hid (take_snoc p.fs j f hf)
          have hfl := HS.out.f f HFM.out
          have hg0 := Lib.hid g0
          have hal : (acc0 ++ (p.fs.take j).flatMap funLines).length ≤ 91 * 60 + 84484 * j := by
            have := flat_bound funLines 84484 (p.fs.take j) (fun d hd => funLines_len (HN.out.ins d (List.mem_of_mem_take hd)) (HS.out.l d (List.mem_of_mem_take hd)) (HS.out.f d (List.mem_of_mem_take hd)))
            rw [List.length_take] at this
            rw [List.length_append]
            omega
          obtain ⟨S1, hS1, hS1e⟩ : ∃ S1, Adds (bt (acc0 ++ (p.fs.take j).flatMap funLines)) ⟨#[102, 117, 110, 10]⟩ S1 ∧ S1 = bt (acc0 ++ (p.fs.take j).flatMap funLines ++ [102, 117, 110, 10]) := ⟨_, adds_bt _ [102, 117, 110, 10] (by show _ + 4 ≤ _; omega), rfl⟩
          unfold Adds at hS1
          obtain ⟨acc1, hacc1⟩ : ∃ a, a = acc0 ++ (p.fs.take j).flatMap funLines ++ [102, 117, 110, 10] := ⟨_, rfl⟩
          have hal1 : acc1.length ≤ 91 * 60 + 84484 * j + 4 := by rw [hacc1, List.length_append]; show _ + 4 ≤ _; omega
          rw [← hacc1] at hS1e
          replace hacc1 := Lib.hid hacc1
          replace hS1e := Lib.hid hS1e
          have hB1 := Lib.hid hb
          obtain ⟨wp, hwp⟩ : ∃ wp, wp = wr := ⟨_, rfl⟩
          subst hwp
          generalize bt (acc0 ++ (p.fs.take j).flatMap funLines) = S0 at hS1 ⊢
          clear hf hal g0
          go_wp2_with fail
          go_loopw [3, 7] (fun us ui wr => ∃ i : Nat, i ≤ f.length ∧ ui = .int .i64 i ∧ us = .string (bt (acc1 ++ (f.take i).flatMap insLine)) ∧ Below W.heap.size W wr) (fun _ ui _ => f.length - (intOf ui).toNat)
          case atStart => exact ⟨0, by omega, rfl, by rw [hS1e.out]; simp, hB1.out⟩
          case round =>
            clear hS1 hB1 z0 z1 zl hbw hb
            obtain ⟨i, hi, rfl, rfl, hb⟩ := hrel
            obtain ⟨z0, z1, zl, hbw⟩ := hpb.out wr hb
            have g0 := (hbw.cell (p := ⟨bf, off + j, none⟩) hbf).trans hg0.out
            by_cases hil : i < f.length
            · have t3 : decide ((i : Int) < f.length) = true := by simp; omega
              obtain ⟨rfl, hbj⟩ := q3.out (by omega)
              obtain ⟨x, hx⟩ : ∃ x, f[i]? = some x := ⟨_, List.getElem?_eq_getElem hil⟩
              obtain ⟨lv, i0, i1, i2, i3, i4, oal, capl, bl, offl, rfl, l1, l2, l3, l4⟩ := q4.out i x hx
              unfold maxLen at l2
              replace l3 := Lib.hid l3
              replace l4 := Lib.hid l4
              have HXM := Lib.hid (List.mem_of_getElem? hx)
              have HTX := Lib.hid (take_snoc f i x hx)
              have hxl := HS.out.l f HFM.out x HXM.out
              have HXI := Lib.hid (HN.out.ins f HFM.out x HXM.out)
              have hal : (acc1 ++ (f.take i).flatMap insLine).length ≤ 91 * 60 + 84484 * j + 4 + 1408 * i := by
                have := flat_bound insLine 1408 (f.take i) (fun d hd => insLine_len (HN.out.ins f HFM.out d (List.mem_of_mem_take hd)) (HS.out.l f HFM.out d (List.mem_of_mem_take hd)))
                rw [List.length_take] at this
                rw [List.length_append]
                omega
              replace i0 := (hbw.cell (p := ⟨bj, offj + i * 5, none⟩) hbj).trans i0
              replace i1 := (hbw.cell (p := ⟨bj, offj + i * 5 + 1, none⟩) hbj).trans i1
              replace i2 := (hbw.cell (p := ⟨bj, offj + i * 5 + 2, none⟩) hbj).trans i2
              replace i3 := (hbw.cell (p := ⟨bj, offj + i * 5 + 3, none⟩) hbj).trans i3
              replace i4 := (hbw.cell (p := ⟨bj, offj + i * 5 + 4, none⟩) hbj).trans i4
              obtain ⟨S1, S2, S3, S4, S5, S6, S7, ⟨a1, a2, a3, a4, a5, a6, a7⟩, hS7⟩ := ins_adds (acc1 ++ (f.take i).flatMap insLine) x HXI.out (by omega)
              have HS7 := Lib.hid hS7
              unfold Adds at a1 a2 a3 a4 a5 a6 a7
              obtain ⟨acc2, hacc2⟩ : ∃ a, a = acc1 ++ (f.take i).flatMap insLine := ⟨_, rfl⟩
              rw [← hacc2] at hal HS7
              replace hacc2 := Lib.hid hacc2
              generalize bt (acc1 ++ (f.take i).flatMap insLine) = S0 at a1 ⊢
              clear hx hS7
              go_upto_region 15 with fail
              have hbA := hb.trans ((alloc_below wr (.cells #[.int .i64 x.op, .int .i64 x.a, .int .i64 x.b, .int .i64 x.c, .slice oal x.l.length capl] 25)).mono hb.size)
              have hxc := heap_alloc_new wr (.cells #[.int .i64 x.op, .int .i64 x.a, .int .i64 x.b, .int .i64 x.c, .slice oal x.l.length capl] 25)
              generalize wr.alloc (.cells #[.int .i64 x.op, .int .i64 x.a, .int .i64 x.b, .int .i64 x.c, .slice oal x.l.length capl] 25) = w1 at hbA hxc ⊢
              generalize wr.heap.size = bx at hxc ⊢
              have hkc : Hid (∀ w', Below w1.heap.size w1 w' → Below W.heap.size W w' ∧ w'.cell? ⟨bx, 0, none⟩ = some (.int .i64 x.op) ∧ w'.cell? ⟨bx, 1, none⟩ = some (.int .i64 x.a) ∧ w'.cell? ⟨bx, 2, none⟩ = some (.int .i64 x.b) ∧ w'.cell? ⟨bx, 3, none⟩ = some (.int .i64 x.c) ∧ w'.cell? ⟨bx, 4, none⟩ = some (.slice oal x.l.length capl)) := Lib.hid fun w' h => by
                have e := bx_cells5 ((h.block bx (Array.getElem?_eq_some_iff.1 hxc).1).trans hxc)
                exact ⟨hbA.trans (h.mono hbA.size), e.1, e.2.1, e.2.2.1, e.2.2.2.1, e.2.2.2.2⟩
              obtain ⟨-, y0, y1, y2, y3, y4⟩ := hkc.out w1 (Below.refl _ _)
              clear hbA hxc g0 z0 z1 zl hb hbw i0 i1 i2 i3 i4
              go_region_held3 (fun w' => w'.cell? ⟨bx, 0, none⟩ = some (.int .i64 x.op) ∧ w'.cell? ⟨bx, 1, none⟩ = some (.int .i64 x.a) ∧ w'.cell? ⟨bx, 2, none⟩ = some (.int .i64 x.b) ∧ w'.cell? ⟨bx, 3, none⟩ = some (.int .i64 x.c)) (first | (refine ⟨?_, ?_, ?_, ?_⟩ <;> assumption) | go_keep)
                (first
                  | (go_at_call_of 39 (Value.int .i64 x.op); refine (digits_any x.op (HXI.out x.op (by simp)) _).mono ?_; rintro e w2 ⟨rfl, hb2⟩; have B2 : Below w1.heap.size w1 w2 := below_undrew hb2; obtain ⟨-, p1, p2, p3, p4, -⟩ := hkc.out w2 B2; clear hb2; replace B2 := Lib.hid B2)
                  | (go_at_call_of 39 (Value.int .i64 x.a); refine (digits_any x.a (HXI.out x.a (by simp)) _).mono ?_; rintro e w3 ⟨rfl, hb3⟩; have B3 : Below w1.heap.size w1 w3 := B2.out.trans (hb3.mono B2.out.size); obtain ⟨-, q1, q2, q3, q4, -⟩ := hkc.out w3 B3; clear hb3; replace B3 := Lib.hid B3)
                  | (go_at_call_of 39 (Value.int .i64 x.b); refine (digits_any x.b (HXI.out x.b (by simp)) _).mono ?_; rintro e w4 ⟨rfl, hb4⟩; have B4 : Below w1.heap.size w1 w4 := B3.out.trans (hb4.mono B3.out.size); obtain ⟨-, r1, r2, r3, r4, -⟩ := hkc.out w4 B4; clear hb4; replace B4 := Lib.hid B4)
                  | (go_at_call_of 39 (Value.int .i64 x.c); refine (digits_any x.c (HXI.out x.c (by simp)) _).mono ?_; rintro e w5 ⟨rfl, hb5⟩; have B5 : Below w1.heap.size w1 w5 := B4.out.trans (hb5.mono B4.out.size); obtain ⟨-, s1, s2, s3, s4, -⟩ := hkc.out w5 B5; clear hb5; replace B5 := Lib.hid B5))
              obtain ⟨acc3, hacc3⟩ : ∃ a, a = acc2 ++ Lib.itoa x.op ++ [x.a, x.b, x.c].flatMap fun n => 32 :: Lib.itoa n := ⟨_, rfl⟩
              have hal3 : acc3.length ≤ 91 * 60 + 84484 * j + 4 + 1408 * i + 100 := by
                have e1 := flat_len [x.a, x.b, x.c] (fun n hn => HXI.out n (by simp at hn ⊢; omega))
                have e2 := Lib.itoa_length_le x.op (HXI.out x.op (by simp)).1 (HXI.out x.op (by simp)).2
                rw [hacc3, List.length_append, List.length_append]
                simp only [List.length_cons, List.length_nil] at e1
                omega
              rw [← hacc3] at HS7
              replace hacc3 := Lib.hid hacc3
              clear a1 a2 a3 a4 a5 a6 a7 y0 y1 y2 y3 y4 p1 p2 p3 p4 q1 q2 q3 q4 r1 r2 r3 r4 s1 s2 s3 s4
              have hkd : Hid (∀ w', Below w5.heap.size w5 w' → Below W.heap.size W w' ∧ w'.cell? ⟨bx, 4, none⟩ = some (.slice oal x.l.length capl)) := Lib.hid fun w' h => by
                have := hkc.out w' (B5.out.trans (h.mono B5.out.size))
                exact ⟨this.1, this.2.2.2.2.2⟩
              obtain ⟨hB5, y4⟩ := hkd.out w5 (Below.refl _ _)
              replace hB5 := Lib.hid hB5
              go_wp2_with fail
              go_loopw [3, 9] (fun us ui wr => ∃ k : Nat, k ≤ x.l.length ∧ ui = .int .i64 k ∧ us = .string (bt (acc3 ++ (x.l.take k).flatMap fun n => 32 :: Lib.itoa n)) ∧ Below w5.heap.size w5 wr) (fun _ ui _ => x.l.length - (intOf ui).toNat)
              case atStart => exact ⟨0, by omega, rfl, by rw [HS7.out]; simp, Below.refl _ _⟩
              case round =>
                clear y4 hB5
                obtain ⟨k, hk, rfl, rfl, hb⟩ := hrel
                obtain ⟨hBr, y4⟩ := hkd.out wr hb
                have hwr := (hpb.out wr hBr).2.2.2
                have hfk : ((x.l.take k).flatMap fun n => (32 : UInt8) :: Lib.itoa n).length ≤ 22 * k := by
                  have := flat_len (x.l.take k) (fun n hn => HXI.out n (by have := List.mem_of_mem_take hn; simp [this]))
                  rw [List.length_take] at this
                  omega
                have halk : (acc3 ++ (x.l.take k).flatMap fun n => (32 : UInt8) :: Lib.itoa n).length ≤ 91 * 60 + 84484 * j + 4 + 1408 * i + 100 + 22 * k := by rw [List.length_append]; omega
                clear hfk
                by_cases hkl : k < x.l.length
                · have t4 : decide ((k : Int) < x.l.length) = true := by simp; omega
                  obtain ⟨rfl, hbl⟩ := l3.out (by omega)
                  obtain ⟨z, hz⟩ : ∃ z, x.l[k]? = some z := ⟨_, List.getElem?_eq_getElem hkl⟩
                  have c0 := (hwr.cell (p := ⟨bl, offl + k, none⟩) hbl).trans (l4.out k z hz)
                  have hzb := HXI.out z (by have := List.mem_of_getElem? hz; simp [this])
                  have hzl := Lib.itoa_length_le z hzb.1 hzb.2
                  have HTZ := Lib.hid (take_snoc x.l k z hz)
                  obtain ⟨S1, hS1, hS1e⟩ : ∃ S1, Adds (bt (acc3 ++ (x.l.take k).flatMap fun n => (32 : UInt8) :: Lib.itoa n)) ⟨#[32]⟩ S1 ∧ S1 = bt (acc3 ++ ((x.l.take k).flatMap fun n => (32 : UInt8) :: Lib.itoa n) ++ [32]) := ⟨_, adds_bt _ [32] (by show _ + 1 ≤ _; omega), rfl⟩
                  obtain ⟨S2, hS2, hS2e⟩ : ∃ S2, Adds S1 (bt (Lib.itoa z)) S2 ∧ S2 = bt (acc3 ++ ((x.l.take k).flatMap fun n => (32 : UInt8) :: Lib.itoa n) ++ [32] ++ Lib.itoa z) := ⟨_, by rw [hS1e]; exact adds_bt _ _ (by rw [List.length_append]; simp only [List.length_cons, List.length_nil]; omega), rfl⟩
                  unfold Adds at hS1 hS2
                  replace hS2e := Lib.hid hS2e
                  have hb0 := Lib.hid hb
                  clear hz hS1e halk
                  generalize bt (acc3 ++ (x.l.take k).flatMap fun n => (32 : UInt8) :: Lib.itoa n) = S0 at hS1 ⊢
                  go_wp2_with fail
                  refine (digits_any z hzb _).mono ?_
                  rintro e w6 ⟨rfl, hb6⟩
                  have hb7 := Lib.hid (hb0.out.trans (hb6.mono hb0.out.size))
                  clear hb6
                  go_wp2
                  go_roundw
                  case rel => exact ⟨k + 1, by omega, by go_num, by rw [hS2e.out, HTZ.out, List.flatMap_append, List.flatMap_singleton]; simp, hb7.out⟩
                  case measure => simp [intOf]; omega
                · have t4 : decide ((k : Int) < x.l.length) = false := by simp; omega
                  obtain rfl : k = x.l.length := by omega
                  obtain ⟨S1, hS1, hS1e⟩ : ∃ S1, Adds (bt (acc3 ++ (x.l.take x.l.length).flatMap fun n => (32 : UInt8) :: Lib.itoa n)) ⟨#[10]⟩ S1 ∧ S1 = bt (acc3 ++ ((x.l.take x.l.length).flatMap fun n => (32 : UInt8) :: Lib.itoa n) ++ [10]) := ⟨_, adds_bt _ [10] (by show _ + 1 ≤ _; omega), rfl⟩
                  have hS1e2 : Hid (S1 = bt (acc1 ++ (f.take (i + 1)).flatMap insLine)) := Lib.hid (by
                    rw [hS1e, HTX.out, List.flatMap_append, List.flatMap_singleton, List.take_length, hacc3.out, hacc2.out]
                    simp [insLine, lineB])
                  unfold Adds at hS1
                  clear hS1e halk
                  replace hBr := Lib.hid hBr
                  generalize bt (acc3 ++ (x.l.take x.l.length).flatMap fun n => (32 : UInt8) :: Lib.itoa n) = S0 at hS1 ⊢
                  go_wp2
                  go_roundw
                  case rel => exact ⟨i + 1, by omega, by go_num, by rw [hS1e2.out], hBr.out⟩
                  case measure => simp [intOf]; omega
            · have t3 : decide ((i : Int) < f.length) = false := by simp; omega
              obtain rfl : i = f.length := by omega
              rw [List.take_length]
              have hfin : Hid (bt (acc1 ++ f.flatMap insLine) = bt (acc0 ++ (p.fs.take (j + 1)).flatMap funLines)) := Lib.hid (by
                rw [HTK.out, List.flatMap_append, List.flatMap_singleton, hacc1.out]
                simp [funLines, lineB])
              replace hb := Lib.hid hb
              generalize bt (acc1 ++ f.flatMap insLine) = S1 at hfin ⊢
              go_wp2
              go_roundw
              case rel => exact ⟨j + 1, by omega, by go_num, by rw [hfin.out], hb.out⟩
              case measure => simp [intOf]; omega
        · have t2 : decide ((j : Int) < p.fs.length) = false := by simp; omega
          obtain rfl : j = p.fs.length := by omega
          rw [List.take_length]
          have hfin : Hid (bt (acc0 ++ p.fs.flatMap funLines) = bt (textB p)) := Lib.hid (by rw [textB, hacc0.out])
          replace hbw := Lib.hid hbw
          generalize bt (acc0 ++ p.fs.flatMap funLines) = S1 at hfin ⊢
          go_wp2
          go_ret
          exact ⟨by rw [← hfin.out]; rfl, hbw.out⟩
end Go.Proofs.YtobhfmliaecbjaaDoor
