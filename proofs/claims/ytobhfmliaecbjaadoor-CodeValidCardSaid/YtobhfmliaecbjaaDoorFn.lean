/-
  The viewer's function. Conditions: what it looks at lies in the heap.
-/
import Derived.Test.YtobhfmliaecbjaaDoorInstr
import Derived.Test.YtobhfmliaecbjaaDoorAhead
namespace Go.Proofs.YtobhfmliaecbjaaDoor
open Go.RowKit

def zk (k : Int) : Nat := if k = 0 then 1 else 0
/-- may a function be run? -/
structure FnOk (nc : Nat) (ks : List Int) (k : Int) (f : List In) : Prop where
  pos : 0 < f.length
  small : f.length ≤ 65536
  last : ∀ x, f[f.length - 1]? = some x → fallsB x.op = false
  ins : ∀ x, x ∈ f → instrB nc ks k f.length x = true
  ahead : Ahead f (zk k).testBit

theorem below_iff {n m : Int} : below n m = true ↔ 0 ≤ n ∧ n < m := by simp [below]
theorem instrB_iff {nc : Nat} {ks : List Int} {k n : Int} {x : In} : instrB nc ks k n x = true ↔ known x.op = true ∧ standsB x.op k = true ∧ fitsB nc ks x.a (shp x.op).f0 = true ∧ fitsB nc ks x.b (shp x.op).f1 = true ∧ fitsB nc ks x.c (shp x.op).f2 = true ∧
    (∀ l ∈ x.l, 0 ≤ l ∧ l < n) ∧ labB (shp x.op).lb x.l.length = true := by
  simp only [instrB, fldB, Bool.and_eq_true, List.all_eq_true, below_iff, and_assoc]
theorem fits_reg {nc : Nat} {ks : List Int} {n f : Int} (h : fitsB nc ks n f = true) (hf : f = 1 ∨ f = 2) : 0 ≤ n ∧ n < 16 := by
  unfold fitsB at h
  rw [if_neg (by omega), if_pos hf] at h
  exact below_iff.1 h
theorem fl_mem {f z n : Int} (h : n ∈ fl f z) : f = 1 ∧ n = z := by
  unfold fl at h
  split at h
  · simp at h; exact ⟨by assumption, h⟩
  · simp at h

theorem Fit.of {nc : Nat} {ks : List Int} {k : Int} {f : List In} (hi : ∀ x, x ∈ f → instrB nc ks k f.length x = true) (hl : ∀ x, f[f.length - 1]? = some x → fallsB x.op = false) : Fit f := by
  refine ⟨fun i x hx n hn => ?_, fun i x hx n hn => ?_, fun i x hx n hn => ?_, fun i x hx hf => ?_⟩
  · obtain ⟨_, _, h0, h1, h2, _⟩ := instrB_iff.1 (hi x (List.mem_of_getElem? hx))
    simp only [readsL, List.mem_append] at hn
    rcases hn with (h | h) | h
    · obtain ⟨e, rfl⟩ := fl_mem h; exact fits_reg h0 (.inl e)
    · obtain ⟨e, rfl⟩ := fl_mem h; exact fits_reg h1 (.inl e)
    · obtain ⟨e, rfl⟩ := fl_mem h; exact fits_reg h2 (.inl e)
  · obtain ⟨_, _, h0, h1, h2, _⟩ := instrB_iff.1 (hi x (List.mem_of_getElem? hx))
    unfold writesO at hn
    split at hn
    · cases hn; exact fits_reg h0 (.inr (by assumption))
    · split at hn
      · cases hn; exact fits_reg h1 (.inr (by assumption))
      · split at hn
        · cases hn; exact fits_reg h2 (.inr (by assumption))
        · cases hn
  · obtain ⟨_, _, _, _, _, h3, _⟩ := instrB_iff.1 (hi x (List.mem_of_getElem? hx))
    exact h3 n hn
  · have hil := (List.getElem?_eq_some_iff.1 hx).1
    by_cases e : i + 1 < f.length
    · exact e
    · have : i = f.length - 1 := by omega
      rw [this] at hx
      rw [hl x hx] at hf
      cases hf

set_option maxRecDepth 100000 in
set_option maxHeartbeats 3000000 in
theorem fn_any (w : World) (fv kv v : Value) (oac : Option Addr) (nc capc : Nat) (ks : List Int) (hI : IntsV w kv ks) (f : List In) (hf : FunV w v f) (hlab : ∀ x ∈ f, x.l.length ≤ 9000000000000000000) (k : Int) (ht : TabAt w) :
    Calls Tryd.prog 33 #[.agg #[fv, .slice oac nc capc, kv], v, .int .i64 k] w fun e w' => ∃ b : Bool, e = .returned (.bool b) ∧ (b = true ↔ FnOk nc ks k f) ∧ Below w.heap.size w w' := by
  have hts := ht.lt
  have hf' := hf
  obtain ⟨oa, cap, b, off, rfl, hc1, hc2, hc3, hc4⟩ := hf
  unfold maxLen at hc2
  have hb1 := alloc_below w (.cells #[fv, .slice oac nc capc, kv] 57)
  by_cases h0 : f.length = 0
  · have t0 : ((f.length : Int) == 0) = true := by rw [beq_iff_eq]; omega
    go_enter Tryd.func33, Tryd.ntmps33
    go_wp2
    go_ret
    exact ⟨false, rfl, ⟨fun h => (by cases h), fun h => absurd h.pos (by omega)⟩, hb1⟩
  have t0 : ((f.length : Int) == 0) = false := by rw [beq_eq_false_iff_ne]; omega
  by_cases h1 : 65536 < f.length
  · have t1 : decide ((f.length : Int) > 65536) = true := by simp; omega
    go_enter Tryd.func33, Tryd.ntmps33
    go_wp2
    go_ret
    exact ⟨false, rfl, ⟨fun h => (by cases h), fun h => absurd h.small (by omega)⟩, hb1⟩
  have t1 : decide ((f.length : Int) > 65536) = false := by simp; omega
  obtain ⟨rfl, hb⟩ := hc3 (by omega)
  obtain ⟨n, hn⟩ : ∃ n, f.length = n + 1 := ⟨f.length - 1, by omega⟩
  obtain ⟨xl, hxl⟩ : ∃ xl, f[n]? = some xl := ⟨_, List.getElem?_eq_getElem (by omega)⟩
  obtain ⟨lvl, g0, g1, g2, g3, g4, -⟩ := hc4 n xl hxl
  replace g0 := (hb1.cell hb).trans g0
  replace g1 := (hb1.cell (p := ⟨b, off + n * 5 + 1, none⟩) hb).trans g1
  replace g2 := (hb1.cell (p := ⟨b, off + n * 5 + 2, none⟩) hb).trans g2
  replace g3 := (hb1.cell (p := ⟨b, off + n * 5 + 3, none⟩) hb).trans g3
  replace g4 := (hb1.cell (p := ⟨b, off + n * 5 + 4, none⟩) hb).trans g4
  have v0 := alloc_cell w #[fv, .slice oac nc capc, kv] 57 0 _ rfl
  have v1 := alloc_cell w #[fv, .slice oac nc capc, kv] 57 1 _ rfl
  have v2 := alloc_cell w #[fv, .slice oac nc capc, kv] 57 2 _ rfl
  have hvl : w.heap.size < (w.alloc (.cells #[fv, .slice oac nc capc, kv] 57)).heap.size := by simp
  have hbl : b < (w.alloc (.cells #[fv, .slice oac nc capc, kv] 57)).heap.size := by simp; omega
  have HL := Lib.hid (show ∀ x, f[f.length - 1]? = some x → x = xl from fun x hx => by rw [hn, Nat.add_sub_cancel, hxl] at hx; exact (Option.some.inj hx).symm)
  have HXL := Lib.hid (show f[f.length - 1]? = some xl by rw [hn, Nat.add_sub_cancel]; exact hxl)
  have HT := Lib.hid (ht.below hb1 hts)
  have HKV := Lib.hid (hI.below hb1)
  have HLAB := Lib.hid hlab
  have HCC := Lib.hid (show ∀ i x, f[i]? = some x → InC (w.alloc (.cells #[fv, .slice oac nc capc, kv] 57)) b (off + i * 5) x from fun i x hx => (hc4 i x hx).below hb1)
  rw [hn] at hf' hc1
  have HFV := Lib.hid (hf'.below hb1)
  have hn16 : n < 65536 := by omega
  have hn16i : (n : Int) < 65536 := by omega
  have HINS := Lib.hid (show ∀ m x, instrB nc ks k ((n : Int) + 1) x = m ↔ instrB nc ks k f.length x = m from fun m x => by rw [hn]; rfl)
  clear t0 t1
  have t0 : ((n : Int) + 1 == 0) = false := by rw [beq_eq_false_iff_ne]; omega
  have t1 : decide ((n : Int) + 1 > 65536) = false := by simp; omega
  have HN := Lib.hid hn
  rw [hn]
  clear hxl hc4 ht hI hf' hlab h0 h1 hc3 hn
  go_enter Tryd.func33, Tryd.ntmps33
  go_wp2_with fail
  have hc := falls_any xl lvl (w.alloc (.cells #[fv, .slice oac nc capc, kv] 57))
  unfold In.val at hc
  refine hc.mono ?_
  clear hc
  rintro e w1 ⟨rfl, hb2⟩
  have hB1 := hb1.trans (hb2.mono hb1.size)
  cases hfa : fallsB xl.op with
  | true =>
    have HFA := Lib.hid hfa
    clear hfa
    go_wp2
    go_ret
    exact ⟨false, rfl, ⟨fun h => (by cases h), fun h => by have := h.last xl HXL.out; rw [HFA.out] at this; cases this⟩, hB1⟩
  | false =>
    have HFA := Lib.hid hfa
    clear hfa g0 g1 g2 g3 g4
    replace v0 := (hb2.cell (p := ⟨w.heap.size, 0, none⟩) hvl).trans v0
    replace v1 := (hb2.cell (p := ⟨w.heap.size, 1, none⟩) hvl).trans v1
    replace v2 := (hb2.cell (p := ⟨w.heap.size, 2, none⟩) hvl).trans v2
    have hvl1 : w.heap.size < w1.heap.size := Nat.lt_of_lt_of_le hvl hb2.size
    have hbl1 : b < w1.heap.size := Nat.lt_of_lt_of_le hbl hb2.size
    have HT1 := Lib.hid (HT.out.below hb2 (by simp))
    have HKV1 := Lib.hid (HKV.out.below hb2)
    have HCC1 := Lib.hid (show ∀ i x, f[i]? = some x → InC w1 b (off + i * 5) x from fun i x hx => (HCC.out i x hx).below hb2)
    have HFV1 := Lib.hid (HFV.out.below hb2)
    clear HT HKV HCC HFV hb2 hvl hbl hb1
    go_wp2_with fail
    go_loopw [29] (fun u wr => ∃ j : Nat, j ≤ n + 1 ∧ u = .int .i64 j ∧ (∀ x ∈ f.take j, instrB nc ks k f.length x = true) ∧ Below w1.heap.size w1 wr) (fun u _ => n + 1 - (intOf u).toNat)
    case atStart => exact ⟨0, by omega, rfl, fun x hx => by simp at hx, Below.refl _ _⟩
    case round =>
      obtain ⟨j, hj, rfl, hso, hbw⟩ := hrel
      have HSO := Lib.hid hso
      clear hso
      replace v0 := (hbw.cell (p := ⟨w.heap.size, 0, none⟩) hvl1).trans v0
      replace v1 := (hbw.cell (p := ⟨w.heap.size, 1, none⟩) hvl1).trans v1
      replace v2 := (hbw.cell (p := ⟨w.heap.size, 2, none⟩) hvl1).trans v2
      have hsz := hbw.size
      by_cases hjl : j < n + 1
      · have t2 : decide ((j : Int) < (n : Int) + 1) = true := by simp; omega
        have hjl' : (j : Int) < (n : Int) + 1 := by omega
        obtain ⟨x, hx⟩ : ∃ x, f[j]? = some x := ⟨_, List.getElem?_eq_getElem (by have := HN.out; omega)⟩
        obtain ⟨lv, g0, g1, g2, g3, g4, hlv⟩ := HCC1.out j x hx
        obtain ⟨oal, capl, rfl⟩ : ∃ oal capl, lv = .slice oal x.l.length capl := by obtain ⟨oal, capl, _, _, h, _⟩ := hlv; exact ⟨oal, capl, h⟩
        replace g0 := (hbw.cell (p := ⟨b, off + j * 5, none⟩) hbl1).trans g0
        replace g1 := (hbw.cell (p := ⟨b, off + j * 5 + 1, none⟩) hbl1).trans g1
        replace g2 := (hbw.cell (p := ⟨b, off + j * 5 + 2, none⟩) hbl1).trans g2
        replace g3 := (hbw.cell (p := ⟨b, off + j * 5 + 3, none⟩) hbl1).trans g3
        replace g4 := (hbw.cell (p := ⟨b, off + j * 5 + 4, none⟩) hbl1).trans g4
        have hbr : b < wr.heap.size := by omega
        have hvr : w.heap.size < wr.heap.size := by omega
        have HXM := Lib.hid (List.mem_of_getElem? hx)
        have HTK := Lib.hid (take_snoc f j x hx)
        have hba := alloc_below wr (.cells #[.int .i64 x.op, .int .i64 x.a, .int .i64 x.b, .int .i64 x.c, .slice oal x.l.length capl] 25)
        have hbwa := hbw.trans (hba.mono hbw.size)
        have hc := Lib.hid (instr_any (wr.alloc (.cells #[.int .i64 x.op, .int .i64 x.a, .int .i64 x.b, .int .i64 x.c, .slice oal x.l.length capl] 25)) fv kv (.slice oal x.l.length capl) oac nc capc ks (HKV1.out.below hbwa) x (hlv.below hbwa) k ((n : Int) + 1) (HT1.out.below hbwa (by omega)) (HLAB.out x HXM.out))
        unfold In.val at hc
        clear hx hlv
        go_wp2_with fail
        refine hc.out.mono ?_
        clear hc
        rintro e w3 ⟨rfl, hb3⟩
        have hb4 : Below w1.heap.size w1 w3 := hbwa.trans (hb3.mono hbwa.size)
        clear hb3 hba hbwa g0 g1 g2 g3 g4 v0 v1 v2
        cases hin : instrB nc ks k ((n : Int) + 1) x with
        | false =>
          have HIN := Lib.hid ((HINS.out _ _).1 hin)
          clear hin
          go_wp2
          go_returns
          exact ⟨false, rfl, ⟨fun h => (by cases h), fun h => by have := h.ins x HXM.out; rw [HIN.out] at this; cases this⟩, hB1.trans (hb4.mono hB1.size)⟩
        | true =>
          have HIN := Lib.hid ((HINS.out _ _).1 hin)
          clear hin
          go_wp2
          go_roundw
          case rel =>
            refine ⟨j + 1, by omega, by go_num, fun y hy => ?_, hb4⟩
            rw [HTK.out] at hy
            rcases List.mem_append.1 hy with h | h
            · exact HSO.out y h
            · simp at h; rw [h]; exact HIN.out
          case measure => simp [intOf]; omega
      · have t2 : decide ((j : Int) < (n : Int) + 1) = false := by simp; omega
        obtain rfl : j = n + 1 := by omega
        have hall : ∀ x ∈ f, instrB nc ks k f.length x = true := fun x hx => HSO.out x (by rw [← HN.out, List.take_length]; exact hx)
        have hlast : ∀ x, f[f.length - 1]? = some x → fallsB x.op = false := fun x hx => by rw [HL.out x hx]; exact HFA.out
        have hFit := Fit.of hall hlast
        have HALL := Lib.hid hall
        have HLAST := Lib.hid hlast
        have HFIT := Lib.hid hFit
        clear hall hlast hFit
        have hBr : Below w.heap.size w wr := hB1.trans (hbw.mono hB1.size)
        have fin : ∀ (b : Bool) (z : Nat), z = zk k → (b = true ↔ Ahead f z.testBit) → (b = true ↔ FnOk nc ks k f) := fun b z hz h => by
          subst hz
          exact ⟨fun hb => ⟨by have := HN.out; omega, by have := HN.out; omega, HLAST.out, HALL.out, h.1 hb⟩, fun hb => h.2 hb.ahead⟩
        replace fin := Lib.hid fin
        by_cases hk0 : k = 0
        · subst hk0
          go_wp2_with fail
          have hw := with_any 0 0 (by decide) (by decide) wr
          refine hw.mono ?_
          clear hw
          rintro e w3 ⟨rfl, rfl⟩
          go_wp2_with fail
          refine (writtenAhead_any _ _ f 1 (HFV1.out.below hbw) HFIT.out (by have := HN.out; omega) (by have := HN.out; omega) (by decide) (HT1.out.below hbw (by omega))).mono ?_
          rintro e w3 ⟨b3, rfl, hiff, hb3⟩
          replace hiff := Lib.hid hiff
          go_wp2
          go_ret
          exact ⟨b3, rfl, fin.out b3 1 rfl hiff.out, hBr.trans (hb3.mono hBr.size)⟩
        · have t3 : (k == 0) = false := by simpa using hk0
          have hz : (0 : Nat) = zk k := by rw [zk, if_neg hk0]
          replace hz := Lib.hid hz
          clear hk0
          go_wp2_with fail
          refine (writtenAhead_any _ _ f 0 (HFV1.out.below hbw) HFIT.out (by have := HN.out; omega) (by have := HN.out; omega) (by decide) (HT1.out.below hbw (by omega))).mono ?_
          rintro e w3 ⟨b3, rfl, hiff, hb3⟩
          replace hiff := Lib.hid hiff
          go_wp2
          go_ret
          exact ⟨b3, rfl, fin.out b3 0 hz.out hiff.out, hBr.trans (hb3.mono hBr.size)⟩
end Go.Proofs.YtobhfmliaecbjaaDoor
