/-
  The viewer's instruction. Conditions: what it looks at lies in the heap.
-/
import Derived.Test.YtobhfmliaecbjaaDoorView
namespace Go.Proofs.YtobhfmliaecbjaaDoor
open Go.RowKit

def labB (lb : Int) (n : Nat) : Bool := if lb = 0 then n == 0 else if lb = 1 then n == 1 else decide (0 < n)
def fldB (nc : Nat) (ks : List Int) (x : In) : Nat → Bool
  | 0 => true
  | 1 => fitsB nc ks x.a (shp x.op).f0
  | 2 => fitsB nc ks x.a (shp x.op).f0 && fitsB nc ks x.b (shp x.op).f1
  | _ => fitsB nc ks x.a (shp x.op).f0 && fitsB nc ks x.b (shp x.op).f1 && fitsB nc ks x.c (shp x.op).f2
def instrB (nc : Nat) (ks : List Int) (k n : Int) (x : In) : Bool := (known x.op && standsB x.op k) && (fldB nc ks x 3 && (x.l.all (fun l => below l n) && labB (shp x.op).lb x.l.length))

theorem nb0 (n : Nat) : ((n : Int) == 0) = (n == 0) := by rw [Bool.eq_iff_iff]; simp only [beq_iff_eq]; omega
theorem nb1 (n : Nat) : ((n : Int) == 1) = (n == 1) := by rw [Bool.eq_iff_iff]; simp only [beq_iff_eq]; omega

set_option maxRecDepth 100000 in
set_option maxHeartbeats 3000000 in
theorem instr_any (w : World) (fv kv lv : Value) (oac : Option Addr) (nc capc : Nat) (ks : List Int) (hI : IntsV w kv ks) (x : In) (hL : IntsV w lv x.l) (k n : Int) (ht : TabAt w) (hl3 : x.l.length ≤ 9000000000000000000) :
    Calls Tryd.prog 41 #[.agg #[fv, .slice oac nc capc, kv], x.val lv, .int .i64 k, .int .i64 n] w fun e w' => e = .returned (.bool (instrB nc ks k n x)) ∧ Below w.heap.size w w' := by
  unfold In.val
  have hts := ht.lt
  have hb2 : Below w.heap.size w ((w.alloc (.cells #[fv, .slice oac nc capc, kv] 57)).alloc (.cells #[.int .i64 x.op, .int .i64 x.a, .int .i64 x.b, .int .i64 x.c, lv] 25)) := (alloc_below _ _).alloc (by simp) _
  replace hb2 := Lib.hid hb2
  cases hk : known x.op with
  | false =>
    have HK := Lib.hid hk
    clear hk
    go_enter Tryd.func41, Tryd.ntmps41
    go_wp2_with fail
    refine (known_any x.op _).mono ?_
    rintro e w1 ⟨rfl, rfl⟩
    rw [HK.out]
    go_wp2
    go_ret
    exact ⟨by rw [instrB, HK.out]; rfl, hb2.out⟩
  | true =>
  cases hs : standsB x.op k with
  | false =>
    have HK := Lib.hid hk
    have HS := Lib.hid hs
    clear hk hs
    go_enter Tryd.func41, Tryd.ntmps41
    go_wp2_with fail
    refine (known_any x.op _).mono ?_
    rintro e w1 ⟨rfl, rfl⟩
    rw [HK.out]
    go_wp2_with fail
    refine (stands_any x.op k _).mono ?_
    rintro e w1 ⟨rfl, rfl⟩
    rw [HS.out]
    go_wp2
    go_ret
    exact ⟨by rw [instrB, HK.out, HS.out]; rfl, hb2.out⟩
  | true =>
  have HI := Lib.hid (show instrB nc ks k n x = (fldB nc ks x 3 && (x.l.all (fun l => below l n) && labB (shp x.op).lb x.l.length)) by rw [instrB, hk, hs]; rfl)
  have HK := Lib.hid hk
  have HS := Lib.hid hs
  have HT := Lib.hid ht
  have HKV := Lib.hid hI
  clear hk hs ht hI
  obtain ⟨oal, capl, bl, offl, rfl, hl1, hl2, hl3', hl4⟩ := hL
  replace hl3' := Lib.hid hl3'
  replace hl4 := Lib.hid hl4
  go_enter Tryd.func41, Tryd.ntmps41
  go_wp2_with fail
  refine (known_any x.op _).mono ?_
  rintro e w1 ⟨rfl, rfl⟩
  rw [HK.out]
  go_wp2_with fail
  refine (stands_any x.op k _).mono ?_
  rintro e w1 ⟨rfl, rfl⟩
  rw [HS.out]
  go_wp2_with fail
  refine (shapeOf_any x.op _ (HT.out.below hb2.out hts)).mono ?_
  rintro e w1 ⟨rfl, hb3⟩
  have hB3 : Below w.heap.size w w1 := hb2.out.trans (hb3.mono hb2.out.size)
  have v0 := (hb3.cell (p := ⟨w.heap.size, 0, none⟩) (by simp; omega)).trans ((alloc_same _ _ _ (by simp)).trans (alloc_cell w #[fv, .slice oac nc capc, kv] 57 0 _ rfl))
  have v1 := (hb3.cell (p := ⟨w.heap.size, 1, none⟩) (by simp; omega)).trans ((alloc_same _ _ _ (by simp)).trans (alloc_cell w #[fv, .slice oac nc capc, kv] 57 1 _ rfl))
  have v2 := (hb3.cell (p := ⟨w.heap.size, 2, none⟩) (by simp; omega)).trans ((alloc_same _ _ _ (by simp)).trans (alloc_cell w #[fv, .slice oac nc capc, kv] 57 2 _ rfl))
  have xc : ∀ j u, (#[.int .i64 x.op, .int .i64 x.a, .int .i64 x.b, .int .i64 x.c, .slice oal x.l.length capl] : Array Value)[j]? = some u → w1.cell? ⟨w.heap.size + 1, j, none⟩ = some u := fun j u hu => by
    have h := alloc_cell (w.alloc (.cells #[fv, .slice oac nc capc, kv] 57)) #[.int .i64 x.op, .int .i64 x.a, .int .i64 x.b, .int .i64 x.c, .slice oal x.l.length capl] 25 j u hu
    rw [show (w.alloc (.cells #[fv, .slice oac nc capc, kv] 57)).heap.size = w.heap.size + 1 by simp] at h
    exact (hb3.cell (p := ⟨w.heap.size + 1, j, none⟩) (by simp)).trans h
  have x0 := xc 0 _ rfl
  have x1 := xc 1 _ rfl
  have x2 := xc 2 _ rfl
  have x3 := xc 3 _ rfl
  have x4 := xc 4 _ rfl
  have hw1 := World.block_lt_of_cell? w1 _ x0
  clear hb3 xc
  unfold Sh.val
  go_wp2_with fail
  refine (fieldsOf_any x (.slice oal x.l.length capl) _).mono ?_
  rintro e w2 ⟨rfl, hb4⟩
  have s0 := box_cell hb4 0 (.int .i64 (shp x.op).f0) rfl
  have s1 := box_cell hb4 1 (.int .i64 (shp x.op).f1) rfl
  have s2 := box_cell hb4 2 (.int .i64 (shp x.op).f2) rfl
  have s3 := box_cell hb4 3 (.int .i64 (shp x.op).lb) rfl
  have hlt2 : w1.heap.size < w2.heap.size := World.block_lt_of_cell? w2 _ s0
  have hb5 := box_below hb4
  replace v0 := (hb5.cell (p := ⟨w.heap.size, 0, none⟩) (by have : w.heap.size + 1 < w1.heap.size := hw1; show w.heap.size < _; omega)).trans v0
  replace v1 := (hb5.cell (p := ⟨w.heap.size, 1, none⟩) (by have : w.heap.size + 1 < w1.heap.size := hw1; show w.heap.size < _; omega)).trans v1
  replace v2 := (hb5.cell (p := ⟨w.heap.size, 2, none⟩) (by have : w.heap.size + 1 < w1.heap.size := hw1; show w.heap.size < _; omega)).trans v2
  replace x4 := (hb5.cell (p := ⟨w.heap.size + 1, 4, none⟩) hw1).trans x4
  have hB4 : Below w.heap.size w w2 := hB3.trans (hb5.mono hB3.size)
  have hx1 : w.heap.size + 1 < w2.heap.size := by have : w.heap.size + 1 < w1.heap.size := hw1; omega
  have hx0 : w.heap.size < w2.heap.size := by omega
  clear hb4 hb5 x0 x1 x2 x3 hB3 hw1
  obtain ⟨bs, hbs⟩ : ∃ bs, bs = w1.heap.size := ⟨_, rfl⟩
  rw [← hbs] at s0 s1 s2 s3 hlt2
  simp only [← hbs]
  clear hbs
  have HKV2 := Lib.hid (HKV.out.below (w' := w2) ⟨hB4.os, hB4.tape, hB4.output, hB4.size, hB4.block⟩)
  have i0 : ∀ w, (Instr.index 49 (.agg #[.int .i64 x.a, .int .i64 x.b, .int .i64 x.c]) (.int .i64 0)).run Tryd.prog w = .ok (.int .i64 x.a) w := fun _ => by kernel_rfl
  have i1 : ∀ w, (Instr.index 49 (.agg #[.int .i64 x.a, .int .i64 x.b, .int .i64 x.c]) (.int .i64 1)).run Tryd.prog w = .ok (.int .i64 x.b) w := fun _ => by kernel_rfl
  have i2 : ∀ w, (Instr.index 49 (.agg #[.int .i64 x.a, .int .i64 x.b, .int .i64 x.c]) (.int .i64 2)).run Tryd.prog w = .ok (.int .i64 x.c) w := fun _ => by kernel_rfl
  go_wp2_with fail
  go_loopw [30] (fun u wr => ∃ j : Nat, j ≤ 3 ∧ u = .int .i64 j ∧ fldB nc ks x j = true ∧ Below w2.heap.size w2 wr) (fun u _ => 3 - (intOf u).toNat)
  case atStart => exact ⟨0, by omega, rfl, rfl, Below.refl _ _⟩
  case round =>
    obtain ⟨j, hj, hi, hfld, hbw⟩ := hrel
    have HFLD := Lib.hid hfld
    clear hfld
    replace s0 := (hbw.cell (p := ⟨bs, 0, none⟩) hlt2).trans s0
    replace s1 := (hbw.cell (p := ⟨bs, 1, none⟩) hlt2).trans s1
    replace s2 := (hbw.cell (p := ⟨bs, 2, none⟩) hlt2).trans s2
    replace s3 := (hbw.cell (p := ⟨bs, 3, none⟩) hlt2).trans s3
    replace v0 := (hbw.cell (p := ⟨w.heap.size, 0, none⟩) hx0).trans v0
    replace v1 := (hbw.cell (p := ⟨w.heap.size, 1, none⟩) hx0).trans v1
    replace v2 := (hbw.cell (p := ⟨w.heap.size, 2, none⟩) hx0).trans v2
    replace x4 := (hbw.cell (p := ⟨w.heap.size + 1, 4, none⟩) hx1).trans x4
    have hsz := hbw.size
    have hj4 : j = 0 ∨ j = 1 ∨ j = 2 ∨ j = 3 := by omega
    rcases hj4 with rfl | rfl | rfl | rfl
    · replace hi : u30 = .int .i64 0 := hi
      subst hi
      cases hfit : fitsB nc ks x.a (shp x.op).f0 with
      | false =>
        have HFIT := Lib.hid hfit
        clear hfit
        go_wp2
        go_still_tail 6, (by kernel_rfl)
        change wpList _ _ _ _ _ wr.drew
        have hbd : Below w2.heap.size w2 wr.drew := hbw.drew
        go_wp2_with fail
        refine (fits_any _ fv kv oac nc capc ks (HKV2.out.below hbd) x.a (shp x.op).f0).mono ?_
        rintro e w3 ⟨rfl, hb6⟩
        rw [HFIT.out]
        go_wp2
        go_returns
        refine ⟨?_, hB4.trans ((hbd.trans (hb6.mono hbd.size)).mono hB4.size)⟩
        rw [HI.out]
        simp [fldB, HFIT.out]
      | true =>
        have HFIT := Lib.hid hfit
        clear hfit
        go_wp2
        go_still_tail 6, (by kernel_rfl)
        change wpList _ _ _ _ _ wr.drew
        have hbd : Below w2.heap.size w2 wr.drew := hbw.drew
        go_wp2_with fail
        refine (fits_any _ fv kv oac nc capc ks (HKV2.out.below hbd) x.a (shp x.op).f0).mono ?_
        rintro e w3 ⟨rfl, hb6⟩
        rw [HFIT.out]
        have hb7 := hbd.trans (hb6.mono hbd.size)
        clear hb6
        go_wp2
        go_roundw
        case rel => exact ⟨1, by omega, by go_num, by exact HFIT.out, hb7⟩
        case measure => simp [intOf]
    · replace hi : u30 = .int .i64 1 := hi
      subst hi
      cases hfit : fitsB nc ks x.b (shp x.op).f1 with
      | false =>
        have HFIT := Lib.hid hfit
        clear hfit
        go_wp2
        go_still_tail 6, (by kernel_rfl)
        change wpList _ _ _ _ _ wr.drew
        have hbd : Below w2.heap.size w2 wr.drew := hbw.drew
        go_wp2_with fail
        refine (fits_any _ fv kv oac nc capc ks (HKV2.out.below hbd) x.b (shp x.op).f1).mono ?_
        rintro e w3 ⟨rfl, hb6⟩
        rw [HFIT.out]
        go_wp2
        go_returns
        refine ⟨?_, hB4.trans ((hbd.trans (hb6.mono hbd.size)).mono hB4.size)⟩
        rw [HI.out]
        simp [fldB, HFIT.out]
      | true =>
        have HFIT := Lib.hid hfit
        clear hfit
        go_wp2
        go_still_tail 6, (by kernel_rfl)
        change wpList _ _ _ _ _ wr.drew
        have hbd : Below w2.heap.size w2 wr.drew := hbw.drew
        go_wp2_with fail
        refine (fits_any _ fv kv oac nc capc ks (HKV2.out.below hbd) x.b (shp x.op).f1).mono ?_
        rintro e w3 ⟨rfl, hb6⟩
        rw [HFIT.out]
        have hb7 := hbd.trans (hb6.mono hbd.size)
        clear hb6
        go_wp2
        go_roundw
        case rel => exact ⟨2, by omega, by go_num, by have h1 := HFLD.out; simp only [fldB] at h1 ⊢; rw [HFIT.out, Bool.and_true]; exact h1, hb7⟩
        case measure => simp [intOf]
    · replace hi : u30 = .int .i64 2 := hi
      subst hi
      cases hfit : fitsB nc ks x.c (shp x.op).f2 with
      | false =>
        have HFIT := Lib.hid hfit
        clear hfit
        go_wp2
        go_still_tail 6, (by kernel_rfl)
        change wpList _ _ _ _ _ wr.drew
        have hbd : Below w2.heap.size w2 wr.drew := hbw.drew
        go_wp2_with fail
        refine (fits_any _ fv kv oac nc capc ks (HKV2.out.below hbd) x.c (shp x.op).f2).mono ?_
        rintro e w3 ⟨rfl, hb6⟩
        rw [HFIT.out]
        go_wp2
        go_returns
        refine ⟨?_, hB4.trans ((hbd.trans (hb6.mono hbd.size)).mono hB4.size)⟩
        rw [HI.out]
        simp [fldB, HFIT.out]
      | true =>
        have HFIT := Lib.hid hfit
        clear hfit
        go_wp2
        go_still_tail 6, (by kernel_rfl)
        change wpList _ _ _ _ _ wr.drew
        have hbd : Below w2.heap.size w2 wr.drew := hbw.drew
        go_wp2_with fail
        refine (fits_any _ fv kv oac nc capc ks (HKV2.out.below hbd) x.c (shp x.op).f2).mono ?_
        rintro e w3 ⟨rfl, hb6⟩
        rw [HFIT.out]
        have hb7 := hbd.trans (hb6.mono hbd.size)
        clear hb6
        go_wp2
        go_roundw
        case rel => exact ⟨3, by omega, by go_num, by have h1 := HFLD.out; simp only [fldB] at h1 ⊢; rw [HFIT.out, Bool.and_true]; exact h1, hb7⟩
        case measure => simp [intOf]
    · replace hi : u30 = .int .i64 3 := hi
      subst hi
      have hBr : Below w.heap.size w wr := hB4.trans (hbw.mono hB4.size)
      replace hBr := Lib.hid hBr
      clear hB4
      go_wp2_with fail
      go_loop [46] (fun u => ∃ j : Nat, j ≤ x.l.length ∧ u = .int .i64 j ∧ ∀ l ∈ x.l.take j, below l n = true) (fun u => x.l.length - (intOf u).toNat)
      case atStart => exact ⟨0, by omega, rfl, fun l hl => by simp at hl⟩
      case round =>
        obtain ⟨j, hj, rfl, hso⟩ := hrel
        have HSO := Lib.hid hso
        clear hso
        by_cases hjl : j < x.l.length
        · have t1 : decide ((j : Int) < x.l.length) = true := by simpa using hjl
          obtain ⟨rfl, hbl⟩ := hl3'.out (by omega)
          obtain ⟨lz, hlz⟩ : ∃ lz, x.l[j]? = some lz := ⟨_, List.getElem?_eq_getElem hjl⟩
          have g5 := (hBr.out.cell (p := ⟨bl, offl + j, none⟩) hbl).trans (hl4.out j _ hlz)
          have HIN := Lib.hid (List.mem_of_getElem? hlz)
          have HTK := Lib.hid (take_snoc x.l j _ hlz)
          clear hlz
          cases hbe : below lz n with
          | false =>
            have HBE := Lib.hid hbe
            clear hbe
            go_wp2_with fail
            refine (below_any lz n _).mono ?_
            rintro e w5 ⟨rfl, rfl⟩
            rw [HBE.out]
            go_wp2
            go_returns
            refine ⟨?_, hBr.out⟩
            have : (x.l.all fun l => below l n) = false := by
              rw [List.all_eq_false]
              exact ⟨lz, HIN.out, by simp [HBE.out]⟩
            rw [HI.out, this]
            simp
          | true =>
            have HBE := Lib.hid hbe
            clear hbe
            go_wp2_with fail
            refine (below_any lz n _).mono ?_
            rintro e w5 ⟨rfl, rfl⟩
            rw [HBE.out]
            go_wp2
            go_round
            case rel =>
              refine ⟨j + 1, by omega, by go_num, fun l hl => ?_⟩
              rw [HTK.out] at hl
              rcases List.mem_append.1 hl with h | h
              · exact HSO.out l h
              · simp at h; rw [h]; exact HBE.out
            case measure => simp [intOf]; omega
        · have t1 : decide ((j : Int) < x.l.length) = false := by simpa using hjl
          obtain rfl : j = x.l.length := by omega
          have hall : (x.l.all fun l => below l n) = true := by
            rw [List.all_eq_true]
            intro l hl
            exact HSO.out l (by rw [List.take_length]; exact hl)
          have HRES := Lib.hid (show instrB nc ks k n x = labB (shp x.op).lb x.l.length by rw [HI.out, HFLD.out, hall]; rfl)
          clear hall
          generalize (shp x.op).lb = lb at s3 HRES ⊢
          generalize x.l.length = len at x4 HRES hl3 ⊢
          go_wp2
          all_goals go_returns
          all_goals refine ⟨?_, hBr.out⟩
          all_goals rw [HRES.out]
          all_goals go_light
          all_goals (show Ending.returned (Value.bool _) = Ending.returned (Value.bool _); congr 1)
          all_goals (simp_all [labB, nb0, nb1]; done)
end Go.Proofs.YtobhfmliaecbjaaDoor
