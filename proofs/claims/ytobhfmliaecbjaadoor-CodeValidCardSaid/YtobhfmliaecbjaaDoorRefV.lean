/-
  Valid of the document's own. Conditions: the program lies in the heap, its rows of labels are not too long.
-/
import Derived.Test.YtobhfmliaecbjaaDoorRefK
import Derived.Test.YtobhfmliaecbjaaDoorRefH
import Derived.Test.YtobhfmliaecbjaaDoorRefW
import Derived.Test.YtobhfmliaecbjaaDoorValid
import Derived.Deep.RegionHeld3
namespace Go.Proofs.YtobhfmliaecbjaaDoor
open Go.RowKit

theorem fnOk_iff {nc : Nat} {ks : List Int} {k : Int} {f : List In} : FnOk nc ks k f ↔ ShOk nc ks k f ∧ Ahead f (zk k).testBit :=
  ⟨fun h => ⟨⟨h.pos, h.small, h.last, h.ins⟩, h.ahead⟩, fun ⟨h, a⟩ => ⟨h.pos, h.small, h.last, h.ins, a⟩⟩
theorem resume_one {p : Pg} {c : Cr} (hc : c ∈ p.cs) (h0 : 0 ≤ c.re) (h1 : c.re < p.fs.length) : isB (kindsL p) c.re 1 = true := by
  have hlen := kindsL_len p
  obtain ⟨j, hj⟩ : ∃ j : Nat, c.re = j := ⟨c.re.toNat, by omega⟩
  have hm : (j : Int) ∈ p.cs.map Cr.re := by rw [← hj]; exact List.mem_map.2 ⟨c, hc, rfl⟩
  have := kinds_get p j (by omega)
  rw [kvL_eq, if_pos hm] at this
  unfold isB
  rw [hj, hlen, Bool.and_eq_true]
  refine ⟨by simp [below]; omega, ?_⟩
  rw [Int.toNat_natCast, List.getD_eq_getElem?_getD, this]
  rfl
theorem co_ref {p : Pg} {c : Cr} (hc : c ∈ p.cs) (h0 : 0 ≤ c.re) (h1 : c.re < p.fs.length) : coB (kindsL p) c = (isB (kindsL p) c.ca 2 && (decide (3 ≤ c.wo) && (decide (c.wo ≤ 1048576) && (decide (0 ≤ c.ar) && decide (c.ar ≤ c.wo - 3))))) := by
  rw [coB, resume_one hc h0 h1]
  rfl
theorem isB_out {ks : List Int} {f k : Int} (h : ¬ (0 ≤ f ∧ f < ks.length)) : isB ks f k = false := by
  unfold isB
  have : below f ks.length = false := by
    cases hb : below f ks.length with
    | false => rfl
    | true => exact absurd (below_iff.1 hb) h
  rw [this]; rfl

set_option maxRecDepth 100000 in
set_option maxHeartbeats 8000000 in
theorem refValid_any (w : World) (fv cv : Value) (p : Pg) (hP : PgV w fv cv p) (hL : ∀ f ∈ p.fs, ∀ x ∈ f, x.l.length ≤ 1000000) : Calls Tryd.prog 22 #[.agg #[fv, cv]] w fun e w' => ∃ b : Bool, e = .returned (.bool b) ∧ (b = true ↔ PgOk p) ∧ Below w.heap.size w w' := by
  have HP := Lib.hid hP
  have HL := Lib.hid hL
  obtain ⟨⟨oaf, capf, bf, off, rfl, hf1, hf2, hf3, hf4⟩, oac, capc, bc, offc, rfl, hc1, hc2, hc3, hc4⟩ := hP
  unfold maxLen at hf2 hc2
  obtain ⟨W, hW⟩ : ∃ W, W = w.alloc (.cells #[.slice oaf p.fs.length capf, .slice oac p.cs.length capc] 35) := ⟨_, rfl⟩
  have hbW : Below w.heap.size w W := by rw [hW]; exact alloc_below _ _
  have hx0 : W.heap[w.heap.size]? = some (.cells #[.slice oaf p.fs.length capf, .slice oac p.cs.length capc] 35) := by rw [hW, heap_alloc_new]
  have hpb : Hid (∀ w', Below W.heap.size W w' → w'.cell? ⟨w.heap.size, 0, none⟩ = some (.slice oaf p.fs.length capf) ∧ w'.cell? ⟨w.heap.size, 1, none⟩ = some (.slice oac p.cs.length capc) ∧ w.heap.size < w'.heap.size ∧ Below w.heap.size w w') := Lib.hid fun w' h => by
    have e0 : w'.heap[w.heap.size]? = some (.cells #[.slice oaf p.fs.length capf, .slice oac p.cs.length capc] 35) := (h.block _ (Array.getElem?_eq_some_iff.1 hx0).1).trans hx0
    have hl := (Array.getElem?_eq_some_iff.1 e0).1
    exact ⟨by simp [World.cell?, e0], by simp [World.cell?, e0], hl, hbW.trans (h.mono hbW.size)⟩
  obtain ⟨z0, z1, zl, hbw0⟩ := hpb.out W (Below.refl _ _)
  replace hf3 := Lib.hid hf3
  replace hf4 := Lib.hid hf4
  replace hc3 := Lib.hid hc3
  replace hc4 := Lib.hid hc4
  replace hbw0 := Lib.hid hbw0
  clear hx0 hL
  by_cases h0 : 65536 < p.fs.length
  · have t0 : decide ((p.fs.length : Int) > 65536) = true := by simp; omega
    have hno := Lib.hid (show ¬ PgOk p from fun h => absurd h.fs (by omega))
    clear h0
    go_enter Tryd.func22, Tryd.ntmps22
    go_upto_region 1 with fail
    rw [← hW]
    clear hW
    go_wp2
    go_ret
    exact ⟨false, rfl, ⟨fun h => (by cases h), fun h => absurd h hno.out⟩, hbw0.out⟩
  have t0 : decide ((p.fs.length : Int) > 65536) = false := by simp; omega
  by_cases h1 : 65536 < p.cs.length
  · have t1 : decide ((p.cs.length : Int) > 65536) = true := by simp; omega
    have hno := Lib.hid (show ¬ PgOk p from fun h => absurd h.cs (by omega))
    clear h0 h1
    go_enter Tryd.func22, Tryd.ntmps22
    go_upto_region 1 with fail
    rw [← hW]
    clear hW
    go_wp2
    go_ret
    exact ⟨false, rfl, ⟨fun h => (by cases h), fun h => absurd h hno.out⟩, hbw0.out⟩
  have t1 : decide ((p.cs.length : Int) > 65536) = false := by simp; omega
  have hfn : p.fs.length ≤ 65536 := by omega
  have hcn : p.cs.length ≤ 65536 := by omega
  have HFC := Lib.hid (And.intro hfn hcn)
  have hk := Lib.hid (refKinds_any W _ _ p (HP.out.below hbw0.out) hfn)
  clear h0 h1
  go_enter Tryd.func22, Tryd.ntmps22
  go_upto_region 1 with fail
  rw [← hW]
  clear hW
  go_wp2_with fail
  refine hk.out.mono ?_
  clear hk
  rintro e w1 ⟨vk, rfl, hI1, hb1⟩
  have HI := Lib.hid hI1
  have B1 := Lib.hid (show Below W.heap.size W w1 from hb1)
  have hsz1 := Lib.hid hb1.size
  have hklen := Lib.hid (kindsL_len p)
  obtain ⟨oak, capk, bk, offk, rfl, hk1, hk2, hk3, hk4⟩ := hI1
  unfold maxLen at hk2
  rw [kindsL_len] at hk1
  rw [kindsL_len] at HI ⊢
  replace hk3 := Lib.hid hk3
  replace hk4 := Lib.hid hk4
  have hgo := Lib.hid (show ∀ w', Below w1.heap.size w1 w' → Below W.heap.size W w' from fun w' h => B1.out.trans (h.mono hsz1.out))
  clear hb1 z0 z1 zl t0 t1
  obtain ⟨z0, z1, zl, -⟩ := hpb.out w1 B1.out
  go_wp2_with fail
  go_loopw [4] (fun u wr => ∃ j : Nat, j ≤ p.cs.length ∧ u = .int .i64 j ∧ (∀ c ∈ p.cs.take j, coB (kindsL p) c = true) ∧ Below w1.heap.size w1 wr) (fun u _ => p.cs.length - (intOf u).toNat)
  case atStart => exact ⟨0, by omega, rfl, fun c hc => by simp at hc, Below.refl _ _⟩
  case round =>
    clear z0 z1 zl
    obtain ⟨j, hj, rfl, hso, hb⟩ := hrel
    obtain ⟨z0, z1, zl, hbw⟩ := hpb.out wr (hgo.out wr hb)
    have HSO := Lib.hid hso
    have hb0 := Lib.hid hb
    have hbkw := Lib.hid (show ∀ i z, (kindsL p)[i]? = some z → oak = some ⟨bk, offk, none⟩ ∧ wr.cell? ⟨bk, offk + i, none⟩ = some (.int .i64 z) ∧ bk < wr.heap.size from fun i z hz => by
      obtain ⟨h1, h2⟩ := hk3.out (by have := (List.getElem?_eq_some_iff.1 hz).1; omega)
      exact ⟨h1, (hb.cell (p := ⟨bk, offk + i, none⟩) h2).trans (hk4.out i z hz), Nat.lt_of_lt_of_le h2 hb.size⟩)
    clear hso hb
    by_cases hjl : j < p.cs.length
    · have t1 : decide ((j : Int) < p.cs.length) = true := by simp; omega
      obtain ⟨rfl, hbc⟩ := hc3.out (by omega)
      obtain ⟨c, hc⟩ : ∃ c, p.cs[j]? = some c := ⟨_, List.getElem?_eq_getElem hjl⟩
      obtain ⟨sn, g0, g1, g2, g3, g4⟩ := hc4.out j c hc
      have HTK := Lib.hid (take_snoc p.cs j c hc)
      have HCM := Lib.hid (List.mem_of_getElem? hc)
      have hbad := Lib.hid (show coB (kindsL p) c = false → ¬ PgOk p from fun h1 h2 => by have := h2.co c HCM.out; rw [h1] at this; cases this)
      replace g0 := (hbw.cell (p := ⟨bc, offc + j * 5, none⟩) hbc).trans g0
      replace g1 := (hbw.cell (p := ⟨bc, offc + j * 5 + 1, none⟩) hbc).trans g1
      replace g2 := (hbw.cell (p := ⟨bc, offc + j * 5 + 2, none⟩) hbc).trans g2
      replace g3 := (hbw.cell (p := ⟨bc, offc + j * 5 + 3, none⟩) hbc).trans g3
      replace g4 := (hbw.cell (p := ⟨bc, offc + j * 5 + 4, none⟩) hbc).trans g4
      have hbcr : bc < wr.heap.size := Nat.lt_of_lt_of_le hbc hbw.size
      have hbw2 := Lib.hid (hbw.trans ((alloc_below wr (.cells #[.string sn, .int .i64 c.re, .int .i64 c.ca, .int .i64 c.wo, .int .i64 c.ar] 55)).mono hbw.size))
      have hb2 := Lib.hid (hb0.out.trans ((alloc_below wr (.cells #[.string sn, .int .i64 c.re, .int .i64 c.ca, .int .i64 c.wo, .int .i64 c.ar] 55)).mono hb0.out.size))
      clear hc hbw
      have hbw := hbw2
      clear hbw2
      by_cases h1 : c.re < 0
      · have t2 : decide (c.re < 0) = true := by simpa using h1
        have hno := Lib.hid (hbad.out (by rw [coB, isB_out (by omega)]; rfl))
        replace h1 := Lib.hid h1
        go_wp2
        go_returns
        first | exact ⟨false, rfl, ⟨fun h => (by cases h), fun h => absurd h hno.out⟩, hbw.out⟩ | exact Or.inl ⟨rfl, hno.out, hbw.out⟩
      have t2 : decide (c.re < 0) = false := by simp; omega
      by_cases h2 : c.re ≥ p.fs.length
      · have t3 : decide (c.re ≥ (p.fs.length : Int)) = true := by simpa using h2
        have hno := Lib.hid (hbad.out (by rw [coB, isB_out (by have := hklen.out; omega)]; rfl))
        replace h1 := Lib.hid h1
        replace h2 := Lib.hid h2
        go_wp2
        go_returns
        first | exact ⟨false, rfl, ⟨fun h => (by cases h), fun h => absurd h hno.out⟩, hbw.out⟩ | exact Or.inl ⟨rfl, hno.out, hbw.out⟩
      have t3 : decide (c.re ≥ (p.fs.length : Int)) = false := by simp; omega
      have hCR := Lib.hid (co_ref HCM.out (by omega) (by omega))
      replace h1 := Lib.hid h1
      replace h2 := Lib.hid h2
      by_cases h3 : c.ca < 0
      · have t4 : decide (c.ca < 0) = true := by simpa using h3
        have hno := Lib.hid (hbad.out (by rw [hCR.out, isB_out (by omega)]; rfl))
        replace h3 := Lib.hid h3
        go_wp2
        go_returns
        first | exact ⟨false, rfl, ⟨fun h => (by cases h), fun h => absurd h hno.out⟩, hbw.out⟩ | exact Or.inl ⟨rfl, hno.out, hbw.out⟩
      have t4 : decide (c.ca < 0) = false := by simp; omega
      by_cases h4 : c.ca ≥ p.fs.length
      · have t5 : decide (c.ca ≥ (p.fs.length : Int)) = true := by simpa using h4
        have hno := Lib.hid (hbad.out (by rw [hCR.out, isB_out (by have := hklen.out; omega)]; rfl))
        replace h3 := Lib.hid h3
        replace h4 := Lib.hid h4
        go_wp2
        go_returns
        first | exact ⟨false, rfl, ⟨fun h => (by cases h), fun h => absurd h hno.out⟩, hbw.out⟩ | exact Or.inl ⟨rfl, hno.out, hbw.out⟩
      have t5 : decide (c.ca ≥ (p.fs.length : Int)) = false := by simp; omega
      obtain ⟨ca, hca⟩ : ∃ ca : Nat, c.ca = ca := ⟨c.ca.toNat, by omega⟩
      have hcal : ca < p.fs.length := by omega
      have hcai : (ca : Int) < p.fs.length := by omega
      obtain ⟨kz, hkz⟩ : ∃ kz, (kindsL p)[ca]? = some kz := ⟨_, List.getElem?_eq_getElem (by have := hklen.out; omega)⟩
      obtain ⟨rfl, ck, hbkl⟩ := hbkw.out ca kz hkz
      have hisB := Lib.hid (show isB (kindsL p) c.ca 2 = (kz == 2) by
        unfold isB
        rw [hca, below_iff.2 (by have := hklen.out; omega), Bool.true_and, Int.toNat_natCast, List.getD_eq_getElem?_getD, hkz]; rfl)
      rw [hca] at g2 t4 t5 hbw hb2
      clear h3 h4 hkz hca
      by_cases h5 : kz = 2
      · have t6 : (kz != 2) = false := by simp [h5]
        have h5b := Lib.hid (show (kz == 2) = true by simp [h5])
        clear h5
        by_cases h6 : c.wo < 3
        · have t7 : decide (c.wo < 3) = true := by simpa using h6
          have hno := Lib.hid (hbad.out (by rw [hCR.out, hisB.out, h5b.out]; simp; omega))
          replace h6 := Lib.hid h6
          go_wp2
          go_returns
          first | exact ⟨false, rfl, ⟨fun h => (by cases h), fun h => absurd h hno.out⟩, hbw.out⟩ | exact Or.inl ⟨rfl, hno.out, hbw.out⟩
        have t7 : decide (c.wo < 3) = false := by simp; omega
        by_cases h7 : c.wo > 1048576
        · have t8 : decide (c.wo > 1048576) = true := by simpa using h7
          have hno := Lib.hid (hbad.out (by rw [hCR.out, hisB.out, h5b.out]; simp; omega))
          replace h6 := Lib.hid h6
          replace h7 := Lib.hid h7
          go_wp2
          go_returns
          first | exact ⟨false, rfl, ⟨fun h => (by cases h), fun h => absurd h hno.out⟩, hbw.out⟩ | exact Or.inl ⟨rfl, hno.out, hbw.out⟩
        have t8 : decide (c.wo > 1048576) = false := by simp; omega
        by_cases h8 : c.ar < 0
        · have t9 : decide (c.ar < 0) = true := by simpa using h8
          have hno := Lib.hid (hbad.out (by rw [hCR.out, hisB.out, h5b.out]; simp; omega))
          replace h6 := Lib.hid h6
          replace h7 := Lib.hid h7
          replace h8 := Lib.hid h8
          go_wp2
          go_returns
          first | exact ⟨false, rfl, ⟨fun h => (by cases h), fun h => absurd h hno.out⟩, hbw.out⟩ | exact Or.inl ⟨rfl, hno.out, hbw.out⟩
        have t9 : decide (c.ar < 0) = false := by simp; omega
        by_cases h9 : c.ar > c.wo - 3
        · have t10 : decide (c.ar > c.wo - 3) = true := by simpa using h9
          have hno := Lib.hid (hbad.out (by rw [hCR.out, hisB.out, h5b.out]; simp; omega))
          replace h9 := Lib.hid h9
          have hw0 : 3 ≤ c.wo := by omega
          have hw1 : c.wo ≤ 1048576 := by omega
          clear h6 h7 h8
          go_wp2
          go_returns
          first | exact ⟨false, rfl, ⟨fun h => (by cases h), fun h => absurd h hno.out⟩, hbw.out⟩ | exact Or.inl ⟨rfl, hno.out, hbw.out⟩
        have t10 : decide (c.ar > c.wo - 3) = false := by simp; omega
        have hco := Lib.hid (show coB (kindsL p) c = true by rw [hCR.out, hisB.out, h5b.out]; simp; omega)
        have hw0 : 3 ≤ c.wo := by omega
        have hw1 : c.wo ≤ 1048576 := by omega
        clear h6 h7 h8 h9
        go_wp2
        go_roundw
        case rel =>
          refine ⟨j + 1, by omega, by go_num, fun d hd => ?_, hb2.out⟩
          rw [HTK.out] at hd
          rcases List.mem_append.1 hd with h | h
          · exact HSO.out d h
          · simp at h; rw [h]; exact hco.out
        case measure => simp [intOf]; omega
      · have t6 : (kz != 2) = true := by simp [h5]
        have hno := Lib.hid (hbad.out (by rw [hCR.out, hisB.out]; simp [h5]))
        replace h5 := Lib.hid h5
        go_wp2
        go_returns
        first | exact ⟨false, rfl, ⟨fun h => (by cases h), fun h => absurd h hno.out⟩, hbw.out⟩ | exact Or.inl ⟨rfl, hno.out, hbw.out⟩
    · have t1 : decide ((j : Int) < p.cs.length) = false := by simp; omega
      obtain rfl : j = p.cs.length := by omega
      rw [List.take_length] at HSO
      obtain ⟨wo, hwo⟩ : ∃ wo, wo = wr := ⟨_, rfl⟩
      subst hwo
      clear hbw hbkw
      go_wp2_with fail
      go_loopw [6] (fun u wr => ∃ i : Nat, i ≤ p.fs.length ∧ u = .int .i64 i ∧ (∀ (i' : Nat) (f : List In), i' < i → p.fs[i']? = some f → FnOk p.cs.length (kindsL p) ((kindsL p).getD i' 0) f) ∧ Below w1.heap.size w1 wr) (fun u _ => p.fs.length - (intOf u).toNat)
      case atStart => exact ⟨0, by omega, rfl, fun i' f h => absurd h (Nat.not_lt_zero _), hb0.out⟩
      case round =>
        clear z0 z1 zl hb0
        obtain ⟨i, hi, rfl, hfo, hb⟩ := hrel
        obtain ⟨z0, z1, zl, hbw⟩ := hpb.out wr (hgo.out wr hb)
        have HFO := Lib.hid hfo
        have hb0 := Lib.hid hb
        clear hfo
        by_cases hil : i < p.fs.length
        · have t2 : decide ((i : Int) < p.fs.length) = true := by simp; omega
          obtain ⟨f, hf⟩ : ∃ f, p.fs[i]? = some f := ⟨_, List.getElem?_eq_getElem hil⟩
          obtain ⟨kz, hkz⟩ : ∃ kz, (kindsL p)[i]? = some kz := ⟨_, List.getElem?_eq_getElem (by have := hklen.out; omega)⟩
          have hgd := Lib.hid (show (kindsL p).getD i 0 = kz by rw [List.getD_eq_getElem?_getD, hkz]; rfl)
          have HF := Lib.hid hf
          have HLF := Lib.hid (HL.out f (List.mem_of_getElem? hf))
          have hIw := Lib.hid (HI.out.below hb)
          have hsh := Lib.hid (shape_any wr _ _ _ p (HP.out.below hbw) (kindsL p) hIw.out hklen.out i f hf kz hkz (fun x hx => Nat.le_trans (HLF.out x hx) (by decide)))
          go_wp2_with fail
          refine hsh.out.mono ?_
          clear hsh
          rintro e w3 ⟨b3, rfl, hb3i, hb3⟩
          have hb4 := Lib.hid (hb.trans (hb3.mono hb.size))
          replace hb3i := Lib.hid hb3i
          obtain ⟨y0, y1, yl, hbw3⟩ := hpb.out w3 (hgo.out w3 hb4.out)
          clear z0 z1 zl hbw hb hb3
          obtain ⟨rfl, hbf⟩ := hf3.out (by omega)
          obtain ⟨fvi, gf, hFV⟩ := hf4.out i f hf
          obtain ⟨hke, hkb⟩ := hk3.out (by have := hklen.out; omega)
          obtain rfl := hke
          have gk := (hb4.out.cell (p := ⟨bk, offk + i, none⟩) hkb).trans (hk4.out i kz hkz)
          have gf3 := (hbw3.cell (p := ⟨bf, off + i, none⟩) hbf).trans gf
          have hFV3 := Lib.hid (hFV.below hbw3)
          obtain ⟨oaj, capj, bj, offj, rfl, q1, q2, -, -⟩ := hFV
          have hbf3 : bf < w3.heap.size := Nat.lt_of_lt_of_le hbf hbw3.size
          have hbk3 : bk < w3.heap.size := Nat.lt_of_lt_of_le hkb hb4.out.size
          have hiI : (i : Int) < p.fs.length := by omega
          replace hbw3 := Lib.hid hbw3
          have HGF := Lib.hid gf
          have HGK := Lib.hid (hk4.out i kz hkz)
          clear gf hf hkz
          cases b3 with
          | false =>
            have hno := Lib.hid (show ¬ PgOk p from fun h => by
              have h1 := h.fn i f HF.out
              rw [hgd.out] at h1
              exact absurd (hb3i.out.2 (fnOk_iff.1 h1).1) (by simp))
            have hbwn := Lib.hid (show ∀ n, Below w.heap.size w (w3.drewN n) from fun n => ⟨hbw3.out.os, hbw3.out.tape, hbw3.out.output, hbw3.out.size, hbw3.out.block⟩)
            go_wp2_with fail
            go_quiet (fail)
            go_wp2
            go_returns
            first | exact ⟨false, rfl, ⟨fun h => (by cases h), fun h => absurd h hno.out⟩, hbwn.out _⟩ | exact Or.inl ⟨rfl, hno.out, hbwn.out _⟩
          | true =>
            have hSh := Lib.hid (hb3i.out.1 rfl)
            have hFit := Lib.hid (Fit.of hSh.out.ins hSh.out.last)
            have hw := Lib.hid (fun (W' : World) (h : FunV W' (.slice oaj f.length capj) f) => written_any W' _ f h hFit.out hSh.out.pos hSh.out.small kz HLF.out)
            go_wp2_with fail
            go_region_held3 (fun w' => w'.cell? ⟨w.heap.size, 0, none⟩ = some (.slice (some ⟨bf, off, none⟩) p.fs.length capf) ∧ w'.cell? ⟨bf, off + i, none⟩ = some (.slice oaj f.length capj) ∧ w'.cell? ⟨bk, offk + i, none⟩ = some (.int .i64 kz)) (first | (refine ⟨?_, ?_, ?_⟩ <;> assumption) | go_keep)
              (first
                | (go_at_call 35; refine (hw.out _ (hFV3.out.below ((Below.refl _ _).drew))).mono ?_; rintro e w5 ⟨b5, rfl, hb5i, hb5⟩; have B5 : Below w1.heap.size w1 w5 := hb4.out.trans ((undrew2 hb5).mono hb4.out.size); obtain ⟨x0, x1, xl, hbw5⟩ := hpb.out w5 (hgo.out w5 B5); have x2 := (hbw5.cell (p := ⟨bf, off + i, none⟩) hbf).trans HGF.out; have x3 := (B5.cell (p := ⟨bk, offk + i, none⟩) hkb).trans HGK.out; clear hb5; replace B5 := Lib.hid B5; replace hbw5 := Lib.hid hbw5; replace hb5i := Lib.hid hb5i))
            cases b5 with
            | false =>
              have hno := Lib.hid (show ¬ PgOk p from fun h => by
                have h1 := h.fn i f HF.out
                rw [hgd.out] at h1
                exact absurd (hb5i.out.2 h1.ahead) (by simp))
              go_wp2
              go_returns
              first | exact ⟨false, rfl, ⟨fun h => (by cases h), fun h => absurd h hno.out⟩, hbw5.out⟩ | exact Or.inl ⟨rfl, hno.out, hbw5.out⟩
            | true =>
              have hok := Lib.hid (fnOk_iff.2 ⟨hSh.out, hb5i.out.1 rfl⟩)
              go_wp2
              go_roundw
              case rel =>
                refine ⟨i + 1, by omega, by go_num, fun i' g hi' hg => ?_, B5.out⟩
                by_cases e2 : i' = i
                · subst e2
                  rw [HF.out] at hg
                  cases hg
                  rw [hgd.out]
                  exact hok.out
                · exact HFO.out i' g (by omega) hg
              case measure => simp [intOf]; omega
        · have t2 : decide ((i : Int) < p.fs.length) = false := by simp; omega
          obtain rfl : i = p.fs.length := by omega
          go_wp2
          go_ret
          exact ⟨true, rfl, ⟨fun _ => ⟨HFC.out.1, HFC.out.2, HSO.out, fun i' f hf => HFO.out i' f (List.getElem?_eq_some_iff.1 hf).1 hf⟩, fun _ => rfl⟩, hbw⟩
end Go.Proofs.YtobhfmliaecbjaaDoor
