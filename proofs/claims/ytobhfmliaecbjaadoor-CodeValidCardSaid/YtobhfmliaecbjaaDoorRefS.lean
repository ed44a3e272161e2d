/-
  The document's own small functions: known, Falls, Reads, Writes; and row, of the statements. No conditions.
-/
import Derived.Test.YtobhfmliaecbjaaDoorReads
import Derived.Test.YtobhfmliaecbjaaDoorLies
import Derived.Deep.QuietTactic
import Derived.BigQuiet
namespace Go.Proofs.YtobhfmliaecbjaaDoor
open Go.RowKit

theorem refKnown_any (x : In) (lv : Value) (w : World) : Calls Tryd.prog 29 #[x.val lv] w fun e w' => e = .returned (.bool (known x.op)) ∧ Below w.heap.size w w' := by
  unfold In.val
  by_cases h0 : 0 ≤ x.op
  · have t0 : decide (x.op ≥ 0) = true := by simpa using h0
    by_cases h1 : x.op < 30
    · have t1 : decide (x.op ≤ 29) = true := by simp; omega
      go_enter Tryd.func29, Tryd.ntmps29
      go_wp2
      go_ret
      exact ⟨by simp [known, h0, h1], alloc_below _ _⟩
    · have t1 : decide (x.op ≤ 29) = false := by simp; omega
      go_enter Tryd.func29, Tryd.ntmps29
      go_wp2
      go_ret
      exact ⟨by simp [known, h1], alloc_below _ _⟩
  · have t0 : decide (x.op ≥ 0) = false := by simpa using h0
    go_enter Tryd.func29, Tryd.ntmps29
    go_wp2
    go_ret
    exact ⟨by simp [known]; omega, alloc_below _ _⟩

theorem ints_lit1 (W : World) (a : Int) (g : Nat) (hg : g = W.heap.size) : IntsV (W.alloc (.cells #[.int .i64 a] 3)) (.slice (some ⟨g, 0, none⟩) 1 1) [a] := by
  subst hg
  refine ⟨_, 1, W.heap.size, 0, rfl, Nat.le_refl _, by unfold maxLen; omega, fun _ => ⟨rfl, by simp⟩, fun i z hz => ?_⟩
  match i, hz with
  | 0, hz => simp at hz; subst hz; exact alloc_cell _ _ _ _ _ rfl
  | n + 1, hz => simp at hz
theorem ints_lit2 (W : World) (a b : Int) (g : Nat) (hg : g = W.heap.size) : IntsV (W.alloc (.cells #[.int .i64 a, .int .i64 b] 3)) (.slice (some ⟨g, 0, none⟩) 2 2) [a, b] := by
  subst hg
  refine ⟨_, 2, W.heap.size, 0, rfl, Nat.le_refl _, by unfold maxLen; omega, fun _ => ⟨rfl, by simp⟩, fun i z hz => ?_⟩
  match i, hz with
  | 0, hz => simp at hz; subst hz; exact alloc_cell _ _ _ _ _ rfl
  | 1, hz => simp at hz; subst hz; exact alloc_cell _ _ _ _ _ rfl
  | n + 2, hz => simp at hz
theorem ints_none (w : World) : IntsV w (.slice none 0 0) [] := ⟨none, 0, 0, 0, rfl, Nat.le_refl _, Nat.zero_le _, fun h => absurd h (Nat.lt_irrefl _), fun i z hz => by simp at hz⟩
theorem IntsV.cast {w : World} {v : Value} {l m : List Int} (h : IntsV w v l) (e : l = m) : IntsV w v m := e ▸ h

theorem noRead : ∀ k : Fin 30, k.val ∉ [2, 3, 21, 24, 4, 5, 6, 8, 9, 10, 11, 12, 7, 14, 15, 17, 18, 20, 25, 19, 23, 26] → (tab.getD k.val ⟨0, 0, 0, 0⟩).f0 ≠ 1 ∧ (tab.getD k.val ⟨0, 0, 0, 0⟩).f1 ≠ 1 ∧ (tab.getD k.val ⟨0, 0, 0, 0⟩).f2 ≠ 1 := by decide
theorem noWrite : ∀ k : Fin 30, k.val ∉ [0, 1, 2, 3, 8, 9, 10, 11, 12, 16, 21, 22, 24] → (tab.getD k.val ⟨0, 0, 0, 0⟩).f0 ≠ 2 ∧ (tab.getD k.val ⟨0, 0, 0, 0⟩).f1 ≠ 2 ∧ (tab.getD k.val ⟨0, 0, 0, 0⟩).f2 ≠ 2 := by decide
theorem readsL_none (x : In) (h : ∀ k : Nat, k ∈ [2, 3, 21, 24, 4, 5, 6, 8, 9, 10, 11, 12, 7, 14, 15, 17, 18, 20, 25, 19, 23, 26] → x.op ≠ k) : readsL x = [] := by
  cases hk : known x.op with
  | false => rw [readsL, shp_off hk]; rfl
  | true =>
    have h01 : 0 ≤ x.op ∧ x.op < 30 := by simpa [known] using hk
    obtain ⟨k, hkk⟩ : ∃ k : Nat, x.op = k := ⟨x.op.toNat, by omega⟩
    obtain ⟨a, b, c⟩ := noRead ⟨k, by omega⟩ (fun hm => h k hm hkk)
    have e : shp x.op = tab.getD k ⟨0, 0, 0, 0⟩ := by rw [hkk, shp, if_pos (by omega)]; rfl
    rw [readsL, e, fl, fl, fl, if_neg a, if_neg b, if_neg c]
    rfl
theorem writesO_none (x : In) (h : ∀ k : Nat, k ∈ [0, 1, 2, 3, 8, 9, 10, 11, 12, 16, 21, 22, 24] → x.op ≠ k) : writesO x = none := by
  cases hk : known x.op with
  | false => rw [writesO, shp_off hk]; rfl
  | true =>
    have h01 : 0 ≤ x.op ∧ x.op < 30 := by simpa [known] using hk
    obtain ⟨k, hkk⟩ : ∃ k : Nat, x.op = k := ⟨x.op.toNat, by omega⟩
    obtain ⟨a, b, c⟩ := noWrite ⟨k, by omega⟩ (fun hm => h k hm hkk)
    have e : shp x.op = tab.getD k ⟨0, 0, 0, 0⟩ := by rw [hkk, shp, if_pos (by omega)]; rfl
    rw [writesO, e, if_neg a, if_neg b, if_neg c]

set_option maxRecDepth 100000 in
set_option maxHeartbeats 4000000 in
theorem refReads_any (x : In) (lv : Value) (w : World) : Calls Tryd.prog 15 #[x.val lv] w fun e w' => ∃ v, e = .returned v ∧ IntsV w' v (readsL x) ∧ Below w.heap.size w w' := by
  unfold In.val
  go_enter Tryd.func15, Tryd.ntmps15
  go_wp2
  all_goals go_ret
  all_goals go_light
  all_goals simp only [beq_iff_eq, beq_eq_false_iff_ne] at *
  all_goals first
    | exact ⟨_, rfl, (ints_lit1 _ _ _ (by simp)).cast (by simp_all [readsL, shp, tab, fl]), (alloc_below _ _).alloc (by simp) _⟩
    | exact ⟨_, rfl, (ints_lit2 _ _ _ _ (by simp)).cast (by simp_all [readsL, shp, tab, fl]), (alloc_below _ _).alloc (by simp) _⟩
    | exact ⟨_, rfl, (ints_none _).cast (readsL_none x (by intro k hk; simp only [List.mem_cons, List.not_mem_nil, or_false] at hk; omega)).symm, alloc_below _ _⟩

set_option maxRecDepth 100000 in
set_option maxHeartbeats 4000000 in
theorem refWrites_any (x : In) (lv : Value) (w : World) : Calls Tryd.prog 12 #[x.val lv] w fun e w' => e = .returned (writesV (writesO x)) ∧ Below w.heap.size w w' := by
  unfold In.val
  go_enter Tryd.func12, Tryd.ntmps12
  go_wp2
  all_goals go_returns
  all_goals go_light
  all_goals simp only [beq_iff_eq, beq_eq_false_iff_ne] at *
  all_goals first
    | exact ⟨by rw [show writesO x = some x.a by simp_all [writesO, shp, tab]]; rfl, alloc_below _ _⟩
    | exact ⟨by rw [writesO_none x (by intro k hk; simp only [List.mem_cons, List.not_mem_nil, or_false] at hk; omega)]; rfl, alloc_below _ _⟩

set_option maxRecDepth 100000 in
set_option maxHeartbeats 2000000 in
theorem refFalls_any (x : In) (lv : Value) (w : World) : Calls Tryd.prog 17 #[x.val lv] w fun e w' => e = .returned (.bool (fallsB x.op)) ∧ Below w.heap.size w w' := by
  have hk := refKnown_any x lv (w.alloc (.cells #[.int .i64 x.op, .int .i64 x.a, .int .i64 x.b, .int .i64 x.c, lv] 25))
  unfold In.val at hk
  unfold In.val
  cases hkn : known x.op with
  | false =>
    rw [hkn] at hk
    have HK := Lib.hid hkn
    clear hkn
    go_enter Tryd.func17, Tryd.ntmps17
    go_wp2_with fail
    refine hk.mono ?_
    clear hk
    rintro e w1 ⟨rfl, hb⟩
    have hB := box_below hb
    clear hb
    go_wp2
    go_ret
    exact ⟨by rw [fallsB, HK.out]; rfl, hB⟩
  | true =>
    rw [hkn] at hk
    have HK := Lib.hid hkn
    clear hkn
    go_enter Tryd.func17, Tryd.ntmps17
    go_wp2_with fail
    refine hk.mono ?_
    clear hk
    rintro e w1 ⟨rfl, hb⟩
    have hB := Lib.hid (box_below hb)
    have x0 := box_cell hb 0 (.int .i64 x.op) rfl
    clear hb
    by_cases h1 : x.op = 13
    · have t1 : (x.op != 13) = false := by simp [h1]
      replace h1 := Lib.hid h1
      go_wp2
      go_ret
      exact ⟨by rw [fallsB, HK.out, h1.out]; rfl, hB.out⟩
    have t1 : (x.op != 13) = true := by simp [h1]
    by_cases h2 : x.op = 15
    · have t2 : (x.op != 15) = false := by simp [h2]
      replace h1 := Lib.hid h1
      replace h2 := Lib.hid h2
      go_wp2
      go_ret
      exact ⟨by rw [fallsB, HK.out, h2.out]; rfl, hB.out⟩
    have t2 : (x.op != 15) = true := by simp [h2]
    by_cases h3 : x.op = 27
    · have t3 : (x.op != 27) = false := by simp [h3]
      replace h1 := Lib.hid h1
      replace h2 := Lib.hid h2
      replace h3 := Lib.hid h3
      go_wp2
      go_ret
      exact ⟨by rw [fallsB, HK.out, h3.out]; rfl, hB.out⟩
    have t3 : (x.op != 27) = true := by simp [h3]
    by_cases h4 : x.op = 28
    · have t4 : (x.op != 28) = false := by simp [h4]
      replace h1 := Lib.hid h1
      replace h2 := Lib.hid h2
      replace h3 := Lib.hid h3
      replace h4 := Lib.hid h4
      go_wp2
      go_ret
      exact ⟨by rw [fallsB, HK.out, h4.out]; rfl, hB.out⟩
    have t4 : (x.op != 28) = true := by simp [h4]
    by_cases h5 : x.op = 29
    · have t5 : (x.op != 29) = false := by simp [h5]
      replace h1 := Lib.hid h1
      replace h2 := Lib.hid h2
      replace h3 := Lib.hid h3
      replace h4 := Lib.hid h4
      replace h5 := Lib.hid h5
      go_wp2
      go_ret
      exact ⟨by rw [fallsB, HK.out, h5.out]; rfl, hB.out⟩
    have t5 : (x.op != 29) = true := by simp [h5]
    have hf := Lib.hid (show fallsB x.op = true by simp [fallsB, HK.out, h1, h2, h3, h4, h5])
    clear h1 h2 h3 h4 h5
    go_wp2
    go_ret
    exact ⟨by rw [hf.out]; rfl, hB.out⟩

set_option maxRecDepth 100000 in
set_option maxHeartbeats 2000000 in
theorem row_any (w : World) (u v : Value) (l m : List Int) (hu : IntsV w u l) (hv : IntsV w v m) : Calls Tryd.prog 13 #[u, v] w fun e w' => e = .returned (.bool (l == m)) ∧ Below w.heap.size w w' := by
  obtain ⟨oa, ca, ba, offa, rfl, a1, a2, a3, a4⟩ := hu
  obtain ⟨ob, cb, bb, offb, rfl, b1, b2, b3, b4⟩ := hv
  unfold maxLen at a2 b2
  by_cases hl : l.length = m.length
  · have t0 : ((l.length : Int) != m.length) = false := by simp [hl]
    have hla : (l.length : Int) = m.length := by omega
    replace a3 := Lib.hid a3
    replace a4 := Lib.hid a4
    replace b3 := Lib.hid b3
    replace b4 := Lib.hid b4
    have HL := Lib.hid hl
    clear hl hla
    go_enter Tryd.func13, Tryd.ntmps13
    go_wp2_with fail
    go_loopw [5] (fun i wr => ∃ j : Nat, j ≤ l.length ∧ i = .int .i64 j ∧ l.take j = m.take j ∧ Below w.heap.size w wr) (fun i _ => l.length - (intOf i).toNat)
    case atStart => exact ⟨0, by omega, rfl, rfl, Below.refl _ _⟩
    case round =>
      obtain ⟨j, hj, rfl, htk, hbw⟩ := hrel
      have HTK := Lib.hid htk
      clear htk
      by_cases hjl : j < l.length
      · have hjm : j < m.length := by have := HL.out; omega
        have t1 : decide ((j : Int) < l.length) = true := by simp; omega
        have i1 : (j : Int) < l.length := by omega
        have i2 : (j : Int) < m.length := by omega
        obtain ⟨rfl, hba⟩ := a3.out (by omega)
        obtain ⟨rfl, hbb⟩ := b3.out (by omega)
        obtain ⟨y, hy⟩ : ∃ y, l[j]? = some y := ⟨_, List.getElem?_eq_getElem hjl⟩
        obtain ⟨z, hz⟩ : ∃ z, m[j]? = some z := ⟨_, List.getElem?_eq_getElem hjm⟩
        have g0 := (hbw.cell (p := ⟨ba, offa + j, none⟩) hba).trans (a4.out j y hy)
        have g1 := (hbw.cell (p := ⟨bb, offb + j, none⟩) hbb).trans (b4.out j z hz)
        have HY := Lib.hid hy
        have HZ := Lib.hid hz
        clear hy hz
        have hbd : ∀ n, Below w.heap.size w (wr.drewN n) := fun n => ⟨hbw.os, hbw.tape, hbw.output, hbw.size, hbw.block⟩
        by_cases hyz : y = z
        · have t2 : (y != z) = false := by simp [hyz]
          have HE := Lib.hid hyz
          clear hyz
          go_wp2_with fail
          go_quiet (fail)
          go_wp2
          go_roundw
          case rel =>
            refine ⟨j + 1, by omega, by go_num, ?_, hbd _⟩
            rw [List.take_add_one, List.take_add_one, HTK.out, HY.out, HZ.out, HE.out]
          case measure => simp [intOf]; omega
        · have t2 : (y != z) = true := by simp [hyz]
          have HE := Lib.hid hyz
          clear hyz
          go_wp2_with fail
          go_quiet (fail)
          go_wp2
          go_returns
          refine ⟨?_, hbd _⟩
          have : (l == m) = false := by
            rw [beq_eq_false_iff_ne]
            rintro rfl
            rw [HY.out] at HZ
            exact HE.out (Option.some.inj HZ.out)
          rw [this]
          rfl
      · have t1 : decide ((j : Int) < l.length) = false := by simp; omega
        obtain rfl : j = l.length := by omega
        go_wp2
        go_ret
        refine ⟨?_, hbw⟩
        have : (l == m) = true := by
          rw [beq_iff_eq]
          have := HTK.out
          rw [HL.out, List.take_length, ← HL.out, List.take_length] at this
          exact this
        rw [this]
        rfl
  · have t0 : ((l.length : Int) != m.length) = true := by simp; omega
    go_enter Tryd.func13, Tryd.ntmps13
    go_wp2
    go_ret
    refine ⟨?_, Below.refl _ _⟩
    have : (l == m) = false := by rw [beq_eq_false_iff_ne]; rintro rfl; exact hl rfl
    rw [this]
    rfl
end Go.Proofs.YtobhfmliaecbjaaDoor
